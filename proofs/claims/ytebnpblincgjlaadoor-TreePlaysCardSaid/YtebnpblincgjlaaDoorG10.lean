import Derived.Test.YtebnpblincgjlaaDoorG9
import Derived.Test.YtebnpblincgjlaaDoorG1
import Derived.Test.YtebnpblincgjlaaDoorG8
set_option linter.unusedSimpArgs false
set_option linter.unusedVariables false
namespace Go.Proofs.YtebnpblincgjlaaDoor
section
open Go.RowKit
set_option maxRecDepth 100000 in
set_option maxHeartbeats 4000000 in
theorem clone_po {w : World} {B : Nat} {v : Value} {l : List Po} (h : Own w B 73 21 poC v l) (hl : l.length ≤ 1000) :
 Calls Tryd.prog 25 #[v] w fun e w' => ∃ v', e = .returned v' ∧ Own w' w.heap.size 73 21 poC v' l ∧ Below w.heap.size w w' := by
 have nq : ∀ (W : World) (a : Option Addr) (n c n' c' : Nat), (binOp .eql 32 (.slice a n c) (.slice none n' c')).run Tryd.prog W = .ok (.bool a.isNone) W := fun W a n c n' c' => Lib.run_eql_slice_nil W _ _ a n c n' c' Tryd.underlying32
 rcases h.cases with ⟨rfl, rfl⟩ | ⟨g, cap, rfl, h1, h2, h3, h4⟩
 ·
  go_enter Tryd.func25, Tryd.ntmps25
  go_wp2_with fail
  go_ret
  exact ⟨_, rfl, Own.nil _ _ _ _ _, Below.refl _ _⟩
 ·
  obtain ⟨w1, hw1⟩ : ∃ w1, w1 = w.alloc (.cells #[] 73) := ⟨_, rfl⟩
  obtain ⟨G, hG⟩ : ∃ G, G = w.heap.size := ⟨_, rfl⟩
  have B1 := Lib.hid (show Below w.heap.size w w1 by rw [hw1]; exact (Below.refl _ _).alloc (Nat.le_refl _) _)
  have O1 := Lib.hid (show Own w1 w.heap.size 73 21 poC (.slice (some ⟨G, 0, none⟩) 0 0) [] by rw [hw1, hG]; exact Own.made w (Nat.le_refl _) poC)
  have S1 := Lib.hid (show Src w1 poC (.slice (some ⟨g, 0, none⟩) l.length cap) l from (h.next B1.out).src)
  obtain ⟨v', w2, hrun0, o2, g2, -⟩ := poT.app O1.out S1.out (by simp; omega) B1.out.size 32
  have R2 := Lib.hid hrun0
  have O2 := Lib.hid (show Own w2 w.heap.size 73 21 poC v' l by simpa using o2)
  have B2 := Lib.hid (grownBelow B1.out g2 (fun k e => (O1.out.lt k e).1) B1.out.size)
  have HW := Lib.hid hw1
  have HG := Lib.hid hG
  clear hrun0 o2 g2 hw1 hG h h1 h2 h3 h4
  go_enter Tryd.func25, Tryd.ntmps25
  have hrun := R2.out
  rw [HW.out, HG.out] at hrun
  go_wp2_with (at_builtin; refine wpList_append_lst rfl _ _ 32 rfl v' w2 hrun ?_)
  go_ret
  exact ⟨v', rfl, O2.out, B2.out⟩
set_option maxRecDepth 100000 in
set_option maxHeartbeats 4000000 in
theorem clone_vr {w : World} {B : Nat} {v : Value} {l : List Vr} (h : Own w B 98 3 vrC v l) (hl : l.length ≤ 1000) :
 Calls Tryd.prog 26 #[v] w fun e w' => ∃ v', e = .returned v' ∧ Own w' w.heap.size 98 3 vrC v' l ∧ Below w.heap.size w w' := by
 have nq : ∀ (W : World) (a : Option Addr) (n c n' c' : Nat), (binOp .eql 33 (.slice a n c) (.slice none n' c')).run Tryd.prog W = .ok (.bool a.isNone) W := fun W a n c n' c' => Lib.run_eql_slice_nil W _ _ a n c n' c' Tryd.underlying33
 rcases h.cases with ⟨rfl, rfl⟩ | ⟨g, cap, rfl, h1, h2, h3, h4⟩
 ·
  go_enter Tryd.func26, Tryd.ntmps26
  go_wp2_with fail
  go_ret
  exact ⟨_, rfl, Own.nil _ _ _ _ _, Below.refl _ _⟩
 ·
  obtain ⟨w1, hw1⟩ : ∃ w1, w1 = w.alloc (.cells #[] 98) := ⟨_, rfl⟩
  obtain ⟨G, hG⟩ : ∃ G, G = w.heap.size := ⟨_, rfl⟩
  have B1 := Lib.hid (show Below w.heap.size w w1 by rw [hw1]; exact (Below.refl _ _).alloc (Nat.le_refl _) _)
  have O1 := Lib.hid (show Own w1 w.heap.size 98 3 vrC (.slice (some ⟨G, 0, none⟩) 0 0) [] by rw [hw1, hG]; exact Own.made w (Nat.le_refl _) vrC)
  have S1 := Lib.hid (show Src w1 vrC (.slice (some ⟨g, 0, none⟩) l.length cap) l from (h.next B1.out).src)
  obtain ⟨v', w2, hrun0, o2, g2, -⟩ := vrT.app O1.out S1.out (by simp; omega) B1.out.size 33
  have R2 := Lib.hid hrun0
  have O2 := Lib.hid (show Own w2 w.heap.size 98 3 vrC v' l by simpa using o2)
  have B2 := Lib.hid (grownBelow B1.out g2 (fun k e => (O1.out.lt k e).1) B1.out.size)
  have HW := Lib.hid hw1
  have HG := Lib.hid hG
  clear hrun0 o2 g2 hw1 hG h h1 h2 h3 h4
  go_enter Tryd.func26, Tryd.ntmps26
  have hrun := R2.out
  rw [HW.out, HG.out] at hrun
  go_wp2_with (at_builtin; refine wpList_append_lst rfl _ _ 33 rfl v' w2 hrun ?_)
  go_ret
  exact ⟨v', rfl, O2.out, B2.out⟩
set_option maxRecDepth 100000 in
set_option maxHeartbeats 4000000 in
theorem clone_sr {w : World} {B : Nat} {v : Value} {l : List Sr} (h : Own w B 105 8 srC v l) (hl : l.length ≤ 1000) :
 Calls Tryd.prog 27 #[v] w fun e w' => ∃ v', e = .returned v' ∧ Own w' w.heap.size 105 8 srC v' l ∧ Below w.heap.size w w' := by
 have nq : ∀ (W : World) (a : Option Addr) (n c n' c' : Nat), (binOp .eql 34 (.slice a n c) (.slice none n' c')).run Tryd.prog W = .ok (.bool a.isNone) W := fun W a n c n' c' => Lib.run_eql_slice_nil W _ _ a n c n' c' Tryd.underlying34
 rcases h.cases with ⟨rfl, rfl⟩ | ⟨g, cap, rfl, h1, h2, h3, h4⟩
 ·
  go_enter Tryd.func27, Tryd.ntmps27
  go_wp2_with fail
  go_ret
  exact ⟨_, rfl, Own.nil _ _ _ _ _, Below.refl _ _⟩
 ·
  obtain ⟨w1, hw1⟩ : ∃ w1, w1 = w.alloc (.cells #[] 105) := ⟨_, rfl⟩
  obtain ⟨G, hG⟩ : ∃ G, G = w.heap.size := ⟨_, rfl⟩
  have B1 := Lib.hid (show Below w.heap.size w w1 by rw [hw1]; exact (Below.refl _ _).alloc (Nat.le_refl _) _)
  have O1 := Lib.hid (show Own w1 w.heap.size 105 8 srC (.slice (some ⟨G, 0, none⟩) 0 0) [] by rw [hw1, hG]; exact Own.made w (Nat.le_refl _) srC)
  have S1 := Lib.hid (show Src w1 srC (.slice (some ⟨g, 0, none⟩) l.length cap) l from (h.next B1.out).src)
  obtain ⟨v', w2, hrun0, o2, g2, -⟩ := srT.app O1.out S1.out (by simp; omega) B1.out.size 34
  have R2 := Lib.hid hrun0
  have O2 := Lib.hid (show Own w2 w.heap.size 105 8 srC v' l by simpa using o2)
  have B2 := Lib.hid (grownBelow B1.out g2 (fun k e => (O1.out.lt k e).1) B1.out.size)
  have HW := Lib.hid hw1
  have HG := Lib.hid hG
  clear hrun0 o2 g2 hw1 hG h h1 h2 h3 h4
  go_enter Tryd.func27, Tryd.ntmps27
  have hrun := R2.out
  rw [HW.out, HG.out] at hrun
  go_wp2_with (at_builtin; refine wpList_append_lst rfl _ _ 34 rfl v' w2 hrun ?_)
  go_ret
  exact ⟨v', rfl, O2.out, B2.out⟩
set_option maxRecDepth 100000 in
set_option maxHeartbeats 4000000 in
theorem clone_fr {w : World} {B : Nat} {v : Value} {l : List Fr} (h : Own w B 108 9 frC v l) (hl : l.length ≤ 1000) :
 Calls Tryd.prog 28 #[v] w fun e w' => ∃ v', e = .returned v' ∧ Own w' w.heap.size 108 9 frC v' l ∧ Below w.heap.size w w' := by
 have nq : ∀ (W : World) (a : Option Addr) (n c n' c' : Nat), (binOp .eql 35 (.slice a n c) (.slice none n' c')).run Tryd.prog W = .ok (.bool a.isNone) W := fun W a n c n' c' => Lib.run_eql_slice_nil W _ _ a n c n' c' Tryd.underlying35
 rcases h.cases with ⟨rfl, rfl⟩ | ⟨g, cap, rfl, h1, h2, h3, h4⟩
 ·
  go_enter Tryd.func28, Tryd.ntmps28
  go_wp2_with fail
  go_ret
  exact ⟨_, rfl, Own.nil _ _ _ _ _, Below.refl _ _⟩
 ·
  obtain ⟨w1, hw1⟩ : ∃ w1, w1 = w.alloc (.cells #[] 108) := ⟨_, rfl⟩
  obtain ⟨G, hG⟩ : ∃ G, G = w.heap.size := ⟨_, rfl⟩
  have B1 := Lib.hid (show Below w.heap.size w w1 by rw [hw1]; exact (Below.refl _ _).alloc (Nat.le_refl _) _)
  have O1 := Lib.hid (show Own w1 w.heap.size 108 9 frC (.slice (some ⟨G, 0, none⟩) 0 0) [] by rw [hw1, hG]; exact Own.made w (Nat.le_refl _) frC)
  have S1 := Lib.hid (show Src w1 frC (.slice (some ⟨g, 0, none⟩) l.length cap) l from (h.next B1.out).src)
  obtain ⟨v', w2, hrun0, o2, g2, -⟩ := frT.app O1.out S1.out (by simp; omega) B1.out.size 35
  have R2 := Lib.hid hrun0
  have O2 := Lib.hid (show Own w2 w.heap.size 108 9 frC v' l by simpa using o2)
  have B2 := Lib.hid (grownBelow B1.out g2 (fun k e => (O1.out.lt k e).1) B1.out.size)
  have HW := Lib.hid hw1
  have HG := Lib.hid hG
  clear hrun0 o2 g2 hw1 hG h h1 h2 h3 h4
  go_enter Tryd.func28, Tryd.ntmps28
  have hrun := R2.out
  rw [HW.out, HG.out] at hrun
  go_wp2_with (at_builtin; refine wpList_append_lst rfl _ _ 35 rfl v' w2 hrun ?_)
  go_ret
  exact ⟨v', rfl, O2.out, B2.out⟩
end
section
open Go.RowKit
def coldP (x : Po) : Po := ⟨x.p0, x.p1, x.p2, x.p3, x.p4, x.p5, x.p6, x.p7, false, false, 0, 0, 0, 0, 0, 0, 0, 0, 0, 0, 0⟩
theorem built_cold (x : Po) : Tryd.prog.built 73 [(0, .agg #[.int .u16 x.p0, .int .i64 x.p1, .bool x.p2]), (1, .int .u32 x.p3), (2, .int .i64 x.p4), (3, .bool x.p5), (4, .bool x.p6), (5, .bool x.p7)] = some (poA (coldP x)) := by kernel_rfl
set_option maxRecDepth 100000 in
set_option maxHeartbeats 8000000 in
theorem cold_any (x : Po) (w : World) : Calls Tryd.prog 82 #[poV x] w fun e w' => e = .returned (poV (coldP x)) ∧ Below w.heap.size w w' := by
 obtain ⟨a, ha⟩ : ∃ a, a = poA x := ⟨_, rfl⟩
 obtain ⟨zz, hzz⟩ : ∃ zz : Array Value, zz = #[.int .u16 0, .int .i64 0, .bool false, .int .u32 0, .int .i64 0, .bool false, .bool false, .bool false, .bool false, .bool false, .int .i64 0, .int .i64 0, .int .i64 0, .int .u64 0, .int .u32 0, .int .u64 0, .int .u16 0, .int .i64 0, .int .i64 0, .int .i64 0, .int .i64 0] := ⟨_, rfl⟩
 obtain ⟨g, hg⟩ : ∃ g, g = w.heap.size := ⟨_, rfl⟩
 obtain ⟨w0, hw0⟩ : ∃ w0, w0 = w.alloc (.cells a 73) := ⟨_, rfl⟩
 obtain ⟨w1, hw1⟩ : ∃ w1, w1 = w0.alloc (.cells zz 73) := ⟨_, rfl⟩
 have B1 := Lib.hid (show Below w.heap.size w w1 by rw [hw1, hw0]; exact ((Below.refl _ _).alloc (Nat.le_refl _) _).alloc (by simp) _)
 have KX := Lib.hid (show Blk w1 g (poA x) 73 by rw [hw1, hw0, hg, ← ha]; exact (Blk.new _ _ _).alloc _)
 have G1 := Lib.hid (show g + 1 = w0.heap.size by rw [hw0, hg]; simp)
 have KZ := Lib.hid (show Blk w1 (g + 1) zz 73 by rw [hw1, G1.out]; exact Blk.new _ _ _)
 have ZS := Lib.hid (show zz.size = 21 by rw [hzz]; rfl)
 have HZ := Lib.hid hzz
 have HW0 := Lib.hid hw0
 have HW1 := Lib.hid hw1
 have HG := Lib.hid hg
 obtain ⟨r, hr⟩ : ∃ r, r = poA (coldP x) := ⟨_, rfl⟩
 have IR := Lib.hid (show (Tryd.prog.info? 73).map (·.size) = some r.size by rw [hr]; exact po_info _)
 have SR := Lib.hid (show r.size = 21 by rw [hr]; rfl)
 have OR := Lib.hid (show r.all (·.oneCell') = true by rw [hr]; exact po_all _)
 have HR := Lib.hid hr
 show Calls Tryd.prog 82 #[.agg (poA x)] w fun e w' => e = .returned (.agg (poA (coldP x))) ∧ Below w.heap.size w w'
 rw [← ha, ← hr]
 clear ha hzz hg hw0 hw1 hr
 go_enter Tryd.func82, Tryd.ntmps82
 go_upto_region 1 with fail
 rw [← HZ.out, ← HW0.out, ← HW1.out, ← HG.out]
 have c0 : w1.cell? ⟨g, 0, none⟩ = some (.int .u16 x.p0) := KX.out.cell 0
 have c1 : w1.cell? ⟨g, 1, none⟩ = some (.int .i64 x.p1) := KX.out.cell 1
 have c2 : w1.cell? ⟨g, 2, none⟩ = some (.bool x.p2) := KX.out.cell 2
 have c3 : w1.cell? ⟨g, 3, none⟩ = some (.int .u32 x.p3) := KX.out.cell 3
 have c4 : w1.cell? ⟨g, 4, none⟩ = some (.int .i64 x.p4) := KX.out.cell 4
 have c5 : w1.cell? ⟨g, 5, none⟩ = some (.bool x.p5) := KX.out.cell 5
 have c6 : w1.cell? ⟨g, 6, none⟩ = some (.bool x.p6) := KX.out.cell 6
 have c7 : w1.cell? ⟨g, 7, none⟩ = some (.bool x.p7) := KX.out.cell 7
 refine wp_region_lit ?_
 refine wpList_val (.pointer (some ⟨g, 0, none⟩)) (by rfl) (by go_simp) ?_
 (try simp only [Act.put, List.getElem_toArray, List.getElem_cons_succ, List.getElem_cons_zero, List.setIfInBounds_toArray, List.set_cons_zero, List.set_cons_succ])
 refine wpList_val (.agg #[.int .u16 x.p0, .int .i64 x.p1, .bool x.p2]) (by rfl) (by go_simp) ?_
 (try simp only [Act.put, List.getElem_toArray, List.getElem_cons_succ, List.getElem_cons_zero, List.setIfInBounds_toArray, List.set_cons_zero, List.set_cons_succ])
 refine wpList_val (.pointer (some ⟨g, 3, none⟩)) (by rfl) (by go_simp) ?_
 (try simp only [Act.put, List.getElem_toArray, List.getElem_cons_succ, List.getElem_cons_zero, List.setIfInBounds_toArray, List.set_cons_zero, List.set_cons_succ])
 refine wpList_val (.int .u32 x.p3) (by rfl) (by go_simp) ?_
 (try simp only [Act.put, List.getElem_toArray, List.getElem_cons_succ, List.getElem_cons_zero, List.setIfInBounds_toArray, List.set_cons_zero, List.set_cons_succ])
 refine wpList_val (.pointer (some ⟨g, 4, none⟩)) (by rfl) (by go_simp) ?_
 (try simp only [Act.put, List.getElem_toArray, List.getElem_cons_succ, List.getElem_cons_zero, List.setIfInBounds_toArray, List.set_cons_zero, List.set_cons_succ])
 refine wpList_val (.int .i64 x.p4) (by rfl) (by go_simp) ?_
 (try simp only [Act.put, List.getElem_toArray, List.getElem_cons_succ, List.getElem_cons_zero, List.setIfInBounds_toArray, List.set_cons_zero, List.set_cons_succ])
 refine wpList_val (.pointer (some ⟨g, 5, none⟩)) (by rfl) (by go_simp) ?_
 (try simp only [Act.put, List.getElem_toArray, List.getElem_cons_succ, List.getElem_cons_zero, List.setIfInBounds_toArray, List.set_cons_zero, List.set_cons_succ])
 refine wpList_val (.bool x.p5) (by rfl) (by go_simp) ?_
 (try simp only [Act.put, List.getElem_toArray, List.getElem_cons_succ, List.getElem_cons_zero, List.setIfInBounds_toArray, List.set_cons_zero, List.set_cons_succ])
 refine wpList_val (.pointer (some ⟨g, 6, none⟩)) (by rfl) (by go_simp) ?_
 (try simp only [Act.put, List.getElem_toArray, List.getElem_cons_succ, List.getElem_cons_zero, List.setIfInBounds_toArray, List.set_cons_zero, List.set_cons_succ])
 refine wpList_val (.bool x.p6) (by rfl) (by go_simp) ?_
 (try simp only [Act.put, List.getElem_toArray, List.getElem_cons_succ, List.getElem_cons_zero, List.setIfInBounds_toArray, List.set_cons_zero, List.set_cons_succ])
 refine wpList_val (.pointer (some ⟨g, 7, none⟩)) (by rfl) (by go_simp) ?_
 (try simp only [Act.put, List.getElem_toArray, List.getElem_cons_succ, List.getElem_cons_zero, List.setIfInBounds_toArray, List.set_cons_zero, List.set_cons_succ])
 refine wpList_val (.bool x.p7) (by rfl) (by go_simp) ?_
 (try simp only [Act.put, List.getElem_toArray, List.getElem_cons_succ, List.getElem_cons_zero, List.setIfInBounds_toArray, List.set_cons_zero, List.set_cons_succ])
 refine wpList_val (.agg r) (by rfl) (run_build_of 73 [(0, .tmp 4), (1, .tmp 6), (2, .tmp 8), (3, .tmp 10), (4, .tmp 12), (5, .tmp 14)] rfl _ r rfl (by rw [HR.out]; exact built_cold x)) ?_
 (try simp only [Act.put, List.getElem_toArray, List.getElem_cons_succ, List.getElem_cons_zero, List.setIfInBounds_toArray, List.set_cons_zero, List.set_cons_succ])
 refine wpList_store_row rfl 73 _ _ rfl (g + 1) r rfl rfl 73 zz KZ.out IR.out (by rw [ZS.out, SR.out]) OR.out ?_
 (try simp only [Act.put, List.getElem_toArray, List.getElem_cons_succ, List.getElem_cons_zero, List.setIfInBounds_toArray, List.set_cons_zero, List.set_cons_succ])
 refine wpList_nil ?_
 go_wp2_with fail
 refine bodyPost_ret (v := .agg r) (results_cell_row Tryd.results82 _ _ (g + 1) 73 _ (0, 0) _ rfl (KZ.out.row _) Tryd.underlying73 rfl IR.out) rfl ?_
 exact ⟨rfl, below_setRow B1.out (by rw [HG.out]; omega) _⟩
def onP (x : Po) : Bool := x.p7 && x.p6
def idP (x : Po) (n : Int) : Int := IntKind.u16.wrap (IntKind.u16.wrap (IntKind.u16.wrap x.p4 * 4096) + IntKind.u16.wrap n)
set_option maxHeartbeats 2000000 in
theorem on_any (x : Po) (w : World) : Calls Tryd.prog 20 #[poV x] w fun e w' => e = .returned (.bool (onP x)) ∧ Below w.heap.size w w' := by
 obtain ⟨a, ha⟩ : ∃ a, a = poA x := ⟨_, rfl⟩
 obtain ⟨w1, hw1⟩ : ∃ w1, w1 = w.alloc (.cells a 73) := ⟨_, rfl⟩
 have HW := Lib.hid hw1
 have B1 := Lib.hid (show Below w.heap.size w w1 by rw [hw1]; exact (Below.refl _ _).alloc (Nat.le_refl _) _)
 have KX := Lib.hid (show Blk w1 w.heap.size (poA x) 73 by rw [hw1, ← ha]; exact Blk.new _ _ _)
 obtain ⟨u, hu⟩ : ∃ u, u = x.p7 := ⟨_, rfl⟩
 obtain ⟨ad, had⟩ : ∃ u, u = x.p6 := ⟨_, rfl⟩
 have HR := Lib.hid (show onP x = (u && ad) by rw [hu, had]; rfl)
 obtain ⟨R, hR⟩ : ∃ R, R = onP x := ⟨_, rfl⟩
 rw [← hR] at HR
 show Calls Tryd.prog 20 #[.agg (poA x)] w fun e w' => e = .returned (.bool (onP x)) ∧ Below w.heap.size w w'
 rw [← ha, ← hR]
 have c6 : w1.cell? ⟨w.heap.size, 6, none⟩ = some (.bool ad) := by rw [had]; exact KX.out.cell 6
 have c7 : w1.cell? ⟨w.heap.size, 7, none⟩ = some (.bool u) := by rw [hu]; exact KX.out.cell 7
 clear ha hw1 hu had hR
 go_enter Tryd.func20, Tryd.ntmps20
 go_upto_region 1 with fail
 rw [← HW.out]
 cases u
 ·
  go_wp2_with fail
  go_ret
  exact ⟨by rw [HR.out]; rfl, B1.out⟩
 ·
  go_wp2_with fail
  go_ret
  exact ⟨by rw [HR.out]; rfl, B1.out⟩
set_option maxHeartbeats 2000000 in
theorem id_any (x : Po) (n : Int) (w : World) : Calls Tryd.prog 21 #[poV x, .int .i64 n] w fun e w' => e = .returned (.int .u16 (idP x n)) ∧ Below w.heap.size w w' := by
 obtain ⟨a, ha⟩ : ∃ a, a = poA x := ⟨_, rfl⟩
 obtain ⟨w1, hw1⟩ : ∃ w1, w1 = w.alloc (.cells a 73) := ⟨_, rfl⟩
 have HW := Lib.hid hw1
 have B1 := Lib.hid (show Below w.heap.size w w1 by rw [hw1]; exact (Below.refl _ _).alloc (Nat.le_refl _) _)
 have KX := Lib.hid (show Blk w1 w.heap.size (poA x) 73 by rw [hw1, ← ha]; exact Blk.new _ _ _)
 obtain ⟨R, hR⟩ : ∃ R, R = idP x n := ⟨_, rfl⟩
 have HR := Lib.hid hR
 show Calls Tryd.prog 21 #[.agg (poA x), .int .i64 n] w fun e w' => e = .returned (.int .u16 (idP x n)) ∧ Below w.heap.size w w'
 rw [← ha, ← hR]
 clear ha hw1 hR
 go_enter Tryd.func21, Tryd.ntmps21
 go_upto_region 1 with fail
 rw [← HW.out]
 have c4 : w1.cell? ⟨w.heap.size, 4, none⟩ = some (.int .i64 x.p4) := KX.out.cell 4
 go_wp2_with fail
 go_ret
 exact ⟨by rw [HR.out]; unfold idP; rfl, B1.out⟩
end
section
open Go.RowKit
def cL (c : Nat → Int) : List Value := (List.range 14).map fun j => .int .u32 (c j)
structure St where
 cf : Cf
 po : List Po
 vl : List Vr
 st : List Sr
 fd : List Fr
 c : Nat → Int
 beat : Int
def stL (s : St) (v1 v2 v3 v4 : Value) : List Value := cfC s.cf ++ ([v1, v2, v3, v4] ++ (cL s.c ++ [.int .i64 s.beat]))
def stA (s : St) (v1 v2 v3 v4 : Value) : Array Value := (stL s v1 v2 v3 v4).toArray
abbrev stV (s : St) (v1 v2 v3 v4 : Value) : Value := .agg (stA s v1 v2 v3 v4)
theorem size41 : (Tryd.prog.info? 40).map (·.size) = some 25 := by kernel_rfl
theorem st_info (s : St) (v1 v2 v3 v4 : Value) : (Tryd.prog.info? 40).map (·.size) = some (stA s v1 v2 v3 v4).size := size41
theorem st_cells {w : World} {g : Nat} {s : St} {v1 v2 v3 v4 : Value} (h : Blk w g (stA s v1 v2 v3 v4) 40) : w.cell? ⟨g, 6, none⟩ = some v1 ∧ w.cell? ⟨g, 7, none⟩ = some v2 ∧ w.cell? ⟨g, 8, none⟩ = some v3 ∧ w.cell? ⟨g, 9, none⟩ = some v4 ∧ w.cell? ⟨g, 24, none⟩ = some (.int .i64 s.beat) :=
 ⟨h.cell 6, h.cell 7, h.cell 8, h.cell 9, h.cell 24⟩
theorem st_cf (s : St) (v1 v2 v3 v4 : Value) : ∀ i u, (cfC s.cf)[i]? = some u → (stA s v1 v2 v3 v4)[0 + i]? = some u := fun i u h => by
 have hi : i < (cfC s.cf).length := (List.getElem?_eq_some_iff.1 h).1
 unfold stA stL
 rw [Nat.zero_add, List.getElem?_toArray, List.getElem?_append_left hi, h]
structure OwS (w : World) (B : Nat) (s : St) (v1 v2 v3 v4 : Value) : Prop where
 o1 : Own w B 73 21 poC v1 s.po
 o2 : Own w B 98 3 vrC v2 s.vl
 o3 : Own w B 105 8 srC v3 s.st
 o4 : Own w B 108 9 frC v4 s.fd
 few : s.po.length ≤ 100 ∧ s.vl.length ≤ 100 ∧ s.st.length ≤ 100 ∧ s.fd.length ≤ 100
theorem OwS.next {w w' : World} {B : Nat} {s : St} {v1 v2 v3 v4 : Value} (h : OwS w B s v1 v2 v3 v4) (hb : Below w.heap.size w w') : OwS w' B s v1 v2 v3 v4 := ⟨h.o1.next hb, h.o2.next hb, h.o3.next hb, h.o4.next hb, h.few⟩
theorem Own.oneCell {α : Type} {enc : α → List Value} {size base : Nat} {w : World} {e : TypeId} {v : Value} {l : List α} (h : Own w base e size enc v l) : v.oneCell' = true := by
 rcases h.cases with ⟨rfl, -⟩ | ⟨g, cap, rfl, -⟩ <;> rfl
theorem st_one {w : World} {B : Nat} {s : St} {v1 v2 v3 v4 : Value} (h : OwS w B s v1 v2 v3 v4) : (stA s v1 v2 v3 v4).all (·.oneCell') = true := by
 have h1 := h.o1.oneCell
 have h2 := h.o2.oneCell
 have h3 := h.o3.oneCell
 have h4 := h.o4.oneCell
 rw [Array.all_eq_true']
 intro u hu
 simp only [stA, stL, List.mem_toArray, List.mem_append, List.mem_cons, List.not_mem_nil, or_false, cL, List.mem_map] at hu
 rcases hu with hu | (rfl | rfl | rfl | rfl) | ⟨j, -, rfl⟩ | rfl
 ·
  exact cf_one s.cf u hu
 ·
  exact h1
 ·
  exact h2
 ·
  exact h3
 ·
  exact h4
 ·
  rfl
 ·
  rfl
end
section
open Go.RowKit
structure Apart (v1 v2 v3 v4 : Value) : Prop where
 n12 : ∀ g, v1.ownBlock = some g → v2.ownBlock ≠ some g
 n13 : ∀ g, v1.ownBlock = some g → v3.ownBlock ≠ some g
 n14 : ∀ g, v1.ownBlock = some g → v4.ownBlock ≠ some g
 n23 : ∀ g, v2.ownBlock = some g → v3.ownBlock ≠ some g
 n24 : ∀ g, v2.ownBlock = some g → v4.ownBlock ≠ some g
 n34 : ∀ g, v3.ownBlock = some g → v4.ownBlock ≠ some g
theorem own_apart {α β : Type} {ea : α → List Value} {eb : β → List Value} {sa sb B B' : Nat} {w w' : World} {ta tb : TypeId} {v u : Value} {la : List α} {lb : List β} (h : Own w B ta sa ea v la) (hu : Own w' B' tb sb eb u lb) (hB : w.heap.size ≤ B') : ∀ g, v.ownBlock = some g → u.ownBlock ≠ some g := fun g h1 h2 => by
 have a := (h.lt g h1).2
 have b := (hu.lt g h2).1
 omega
theorem own_not {α : Type} {ea : α → List Value} {sa B g : Nat} {w : World} {ta : TypeId} {v : Value} {la : List α} (h : Own w B ta sa ea v la) (hg : g < B) : v.ownBlock ≠ some g := fun e => by
 have := (h.lt g e).1
 omega
theorem st_set6 (s : St) (v1 v2 v3 v4 u : Value) : (stA s v1 v2 v3 v4).setIfInBounds 6 u = stA s u v2 v3 v4 := rfl
theorem st_set7 (s : St) (v1 v2 v3 v4 u : Value) : (stA s v1 v2 v3 v4).setIfInBounds 7 u = stA s v1 u v3 v4 := rfl
theorem st_set8 (s : St) (v1 v2 v3 v4 u : Value) : (stA s v1 v2 v3 v4).setIfInBounds 8 u = stA s v1 v2 u v4 := rfl
theorem st_set9 (s : St) (v1 v2 v3 v4 u : Value) : (stA s v1 v2 v3 v4).setIfInBounds 9 u = stA s v1 v2 v3 u := rfl
theorem Own.rowOther {α : Type} {enc : α → List Value} {size base k : Nat} {w : World} {e : TypeId} {v : Value} {l : List α} (h : Own w base e size enc v l) (hk : v.ownBlock ≠ some k) (new : Array Value) : Own (w.setRow k new) base e size enc v l := by
 refine ⟨h.1, ?_⟩
 rcases h.2 with hn | ⟨g, cap, cur, rfl, h2, h3, h4⟩
 ·
  exact .inl hn
 ·
  exact .inr ⟨g, cap, cur, rfl, h2, (setRow_other w k g new (fun e => hk (by rw [← e]; rfl))).trans h3, h4⟩
theorem own_row {w : World} {B k : Nat} {s : St} {v1 v2 v3 v4 : Value} (h : OwS w B s v1 v2 v3 v4) (h1 : v1.ownBlock ≠ some k) (h2 : v2.ownBlock ≠ some k) (h3 : v3.ownBlock ≠ some k) (h4 : v4.ownBlock ≠ some k) (new : Array Value) : OwS (w.setRow k new) B s v1 v2 v3 v4 :=
 ⟨h.o1.rowOther h1 new, h.o2.rowOther h2 new, h.o3.rowOther h3 new, h.o4.rowOther h4 new, h.few⟩
abbrev nil25 : Array Value := #[.int .u64 0, .int .i64 0, .int .i64 0, .int .i64 0, .int .i64 0, .int .i64 0, .slice none 0 0, .slice none 0 0, .slice none 0 0, .slice none 0 0, .int .u32 0, .int .u32 0, .int .u32 0, .int .u32 0, .int .u32 0, .int .u32 0, .int .u32 0, .int .u32 0, .int .u32 0, .int .u32 0, .int .u32 0, .int .u32 0, .int .u32 0, .int .u32 0, .int .i64 0]
set_option maxRecDepth 100000 in
set_option maxHeartbeats 16000000 in
theorem clone_any {w : World} {B : Nat} {s : St} {v1 v2 v3 v4 : Value} (hs : OwS w B s v1 v2 v3 v4) :
 Calls Tryd.prog 8 #[stV s v1 v2 v3 v4] w fun e w' => ∃ u1 u2 u3 u4, e = .returned (stV s u1 u2 u3 u4) ∧ OwS w' w.heap.size s u1 u2 u3 u4 ∧ Apart u1 u2 u3 u4 ∧ Below w.heap.size w w' := by
 obtain ⟨x, hx⟩ : ∃ x, x = stA s v1 v2 v3 v4 := ⟨_, rfl⟩
 obtain ⟨zz, hzz⟩ : ∃ zz : Array Value, zz = nil25 := ⟨_, rfl⟩
 obtain ⟨g, hg⟩ : ∃ g, g = w.heap.size := ⟨_, rfl⟩
 obtain ⟨w1, hw1⟩ : ∃ w1, w1 = (w.alloc (.cells x 40)).alloc (.cells zz 40) := ⟨_, rfl⟩
 have b1 : Below w.heap.size w w1 := by rw [hw1]; exact ((Below.refl _ _).alloc (Nat.le_refl _) _).alloc (by simp) _
 have B1 := Lib.hid b1
 have K1 := Lib.hid (show Blk w1 g (stA s v1 v2 v3 v4) 40 by rw [hw1, hg, ← hx]; exact (Blk.new _ _ _).alloc _)
 have Z1 := Lib.hid (show Blk w1 (g + 1) zz 40 by
  have := Blk.new (w.alloc (.cells x 40)) zz 40
  rw [hw1, hg]
  simpa using this)
 have ZS := Lib.hid (show zz.size = 25 by rw [hzz]; rfl)
 have O1 := Lib.hid (hs.next b1)
 have L1 := Lib.hid (show g + 1 < w1.heap.size from Z1.out.lt)
 obtain ⟨a1, m1, e1, -⟩ := hs.o1.shape
 obtain ⟨a2, m2, e2, -⟩ := hs.o2.shape
 obtain ⟨a3, m3, e3, -⟩ := hs.o3.shape
 obtain ⟨a4, m4, e4, -⟩ := hs.o4.shape
 obtain ⟨n1, hn1⟩ : ∃ n, n = s.po.length := ⟨_, rfl⟩
 obtain ⟨n2, hn2⟩ : ∃ n, n = s.vl.length := ⟨_, rfl⟩
 obtain ⟨n3, hn3⟩ : ∃ n, n = s.st.length := ⟨_, rfl⟩
 obtain ⟨n4, hn4⟩ : ∃ n, n = s.fd.length := ⟨_, rfl⟩
 rw [← hn1] at e1
 rw [← hn2] at e2
 rw [← hn3] at e3
 rw [← hn4] at e4
 have N1 := Lib.hid hn1
 have N2 := Lib.hid hn2
 have N3 := Lib.hid hn3
 have N4 := Lib.hid hn4
 clear hn1 hn2 hn3 hn4
 have HF := Lib.hid hs.few
 subst e1
 subst e2
 subst e3
 subst e4
 have X1 := Lib.hid (show ∀ k, w.heap.size ≤ k → (Value.slice a1 n1 m1).ownBlock ≠ some k from fun k hk e => by have := (hs.o1.lt k e).2; omega)
 have X2 := Lib.hid (show ∀ k, w.heap.size ≤ k → (Value.slice a2 n2 m2).ownBlock ≠ some k from fun k hk e => by have := (hs.o2.lt k e).2; omega)
 have X3 := Lib.hid (show ∀ k, w.heap.size ≤ k → (Value.slice a3 n3 m3).ownBlock ≠ some k from fun k hk e => by have := (hs.o3.lt k e).2; omega)
 have X4 := Lib.hid (show ∀ k, w.heap.size ≤ k → (Value.slice a4 n4 m4).ownBlock ≠ some k from fun k hk e => by have := (hs.o4.lt k e).2; omega)
 have S1 := Lib.hid (Nat.le_refl w1.heap.size)
 have HW := Lib.hid hw1
 have HG := Lib.hid hg
 have HZ := Lib.hid hzz
 show Calls Tryd.prog 8 #[.agg (stA s (.slice a1 n1 m1) (.slice a2 n2 m2) (.slice a3 n3 m3) (.slice a4 n4 m4))] w _
 rw [← hx]
 clear hx hg hw1 hzz b1 hs
 go_enter Tryd.func8, Tryd.ntmps8
 go_upto_region 1 with fail
 change Code.wp Tryd.prog _ _ _ ((w.alloc (.cells x 40)).alloc (.cells nil25 40))
 rw [← HZ.out, ← HW.out, ← HG.out]
 have c1 : w1.cell? ⟨g, 6, none⟩ = some (.slice a1 n1 m1) := K1.out.cell 6
 have C1 := Lib.hid (clone_po O1.out.o1 (by have := HF.out; omega))
 go_wp2_with fail
 refine C1.out.mono ?_
 rintro e w2 ⟨u1, rfl, ho1, hb1⟩
 obtain ⟨q1, r1, eu1, -⟩ := ho1.shape
 rw [← N1.out] at eu1
 subst eu1
 have P1 := Lib.hid ho1
 have D1 := Lib.hid hb1
 have KK1 := Lib.hid (K1.out.below hb1 K1.out.lt)
 have ZZ1 := Lib.hid (Z1.out.below hb1 Z1.out.lt)
 have f1 : w2.frozen? ⟨g, 6, none⟩ = false := KK1.out.free 6
 have cc1 : w2.cell? ⟨g, 6, none⟩ = some (.slice a1 n1 m1) := KK1.out.cell 6
 clear ho1 hb1 c1
 go_upto_region 2 with fail
 clear f1 cc1
 obtain ⟨w3, hw3⟩ : ∃ w', w' = w2.setCell ⟨g, 6, none⟩ (.slice q1 n1 r1) := ⟨_, rfl⟩
 have B3 := Lib.hid (show Below w.heap.size w w3 by rw [hw3]; exact (B1.out.trans (D1.out.mono B1.out.size)).setCell (by show w.heap.size ≤ g; rw [HG.out]; exact Nat.le_refl _) _)
 have K3 := Lib.hid (show Blk w3 g (stA s (.slice q1 n1 r1) (.slice a2 n2 m2) (.slice a3 n3 m3) (.slice a4 n4 m4)) 40 by
  rw [hw3]
  have := KK1.out.set 6 (.slice q1 n1 r1)
  rw [st_set6] at this
  exact this)
 have Z3 := Lib.hid (show Blk w3 (g + 1) zz 40 by rw [hw3]; exact ZZ1.out.other (a := ⟨g, 6, none⟩) (by show g ≠ g + 1; omega) _)
 have L3 := Lib.hid (show w2.heap.size ≤ w3.heap.size by rw [hw3]; simp)
 have I1 := Lib.hid (show Own w3 w1.heap.size 73 21 poC (.slice q1 n1 r1) s.po by rw [hw3]; exact P1.out.setCell (own_not P1.out (by have := L1.out; have := S1.out; show g < _; omega)) _)
 have O3 := Lib.hid (show OwS w3 B s (.slice a1 n1 m1) (.slice a2 n2 m2) (.slice a3 n3 m3) (.slice a4 n4 m4) by
  have h := O1.out.next D1.out
  rw [hw3]
  exact ⟨h.o1.setCell (X1.out g (by rw [HG.out]; exact Nat.le_refl _)) _, h.o2.setCell (X2.out g (by rw [HG.out]; exact Nat.le_refl _)) _, h.o3.setCell (X3.out g (by rw [HG.out]; exact Nat.le_refl _)) _, h.o4.setCell (X4.out g (by rw [HG.out]; exact Nat.le_refl _)) _, h.few⟩)
 have S3 := Lib.hid (show w1.heap.size ≤ w3.heap.size from Nat.le_trans S1.out (Nat.le_trans D1.out.size L3.out))
 have T3 := Lib.hid (show w1.heap.size ≤ w2.heap.size from D1.out.size)
 rw [← hw3]
 clear hw3
 have c2 : w3.cell? ⟨g, 7, none⟩ = some (.slice a2 n2 m2) := K3.out.cell 7
 have C2 := Lib.hid (clone_vr O3.out.o2 (by have := HF.out; omega))
 go_wp2_with fail
 refine C2.out.mono ?_
 rintro e w4 ⟨u2, rfl, ho2, hb2⟩
 obtain ⟨q2, r2, eu2, -⟩ := ho2.shape
 rw [← N2.out] at eu2
 subst eu2
 have P2 := Lib.hid ho2
 have D2 := Lib.hid hb2
 have KK2 := Lib.hid (K3.out.below hb2 K3.out.lt)
 have ZZ2 := Lib.hid (Z3.out.below hb2 Z3.out.lt)
 have f2 : w4.frozen? ⟨g, 7, none⟩ = false := KK2.out.free 7
 have cc2 : w4.cell? ⟨g, 7, none⟩ = some (.slice a2 n2 m2) := KK2.out.cell 7
 clear ho2 hb2 c2
 go_upto_region 3 with fail
 clear f2 cc2
 obtain ⟨w5, hw5⟩ : ∃ w', w' = w4.setCell ⟨g, 7, none⟩ (.slice q2 n2 r2) := ⟨_, rfl⟩
 have B5 := Lib.hid (show Below w.heap.size w w5 by rw [hw5]; exact (B3.out.trans (D2.out.mono B3.out.size)).setCell (by show w.heap.size ≤ g; rw [HG.out]; exact Nat.le_refl _) _)
 have K5 := Lib.hid (show Blk w5 g (stA s (.slice q1 n1 r1) (.slice q2 n2 r2) (.slice a3 n3 m3) (.slice a4 n4 m4)) 40 by
  rw [hw5]
  have := KK2.out.set 7 (.slice q2 n2 r2)
  rw [st_set7] at this
  exact this)
 have Z5 := Lib.hid (show Blk w5 (g + 1) zz 40 by rw [hw5]; exact ZZ2.out.other (a := ⟨g, 7, none⟩) (by show g ≠ g + 1; omega) _)
 have L5 := Lib.hid (show w4.heap.size ≤ w5.heap.size by rw [hw5]; simp)
 have I2 := Lib.hid (show Own w5 w3.heap.size 98 3 vrC (.slice q2 n2 r2) s.vl by rw [hw5]; exact P2.out.setCell (own_not P2.out (by have := L1.out; have := S3.out; show g < _; omega)) _)
 have I1 := Lib.hid (show Own w5 w1.heap.size 73 21 poC (.slice q1 n1 r1) s.po by rw [hw5]; exact (I1.out.next D2.out).setCell (own_not I1.out (by have := L1.out; have := S1.out; show g < _; omega)) _)
 have O5 := Lib.hid (show OwS w5 B s (.slice a1 n1 m1) (.slice a2 n2 m2) (.slice a3 n3 m3) (.slice a4 n4 m4) by
  have h := O3.out.next D2.out
  rw [hw5]
  exact ⟨h.o1.setCell (X1.out g (by rw [HG.out]; exact Nat.le_refl _)) _, h.o2.setCell (X2.out g (by rw [HG.out]; exact Nat.le_refl _)) _, h.o3.setCell (X3.out g (by rw [HG.out]; exact Nat.le_refl _)) _, h.o4.setCell (X4.out g (by rw [HG.out]; exact Nat.le_refl _)) _, h.few⟩)
 have S5 := Lib.hid (show w1.heap.size ≤ w5.heap.size from Nat.le_trans S3.out (Nat.le_trans D2.out.size L5.out))
 have T5 := Lib.hid (show w3.heap.size ≤ w4.heap.size from D2.out.size)
 rw [← hw5]
 clear hw5
 have c3 : w5.cell? ⟨g, 8, none⟩ = some (.slice a3 n3 m3) := K5.out.cell 8
 have C3 := Lib.hid (clone_sr O5.out.o3 (by have := HF.out; omega))
 go_wp2_with fail
 refine C3.out.mono ?_
 rintro e w6 ⟨u3, rfl, ho3, hb3⟩
 obtain ⟨q3, r3, eu3, -⟩ := ho3.shape
 rw [← N3.out] at eu3
 subst eu3
 have P3 := Lib.hid ho3
 have D3 := Lib.hid hb3
 have KK3 := Lib.hid (K5.out.below hb3 K5.out.lt)
 have ZZ3 := Lib.hid (Z5.out.below hb3 Z5.out.lt)
 have f3 : w6.frozen? ⟨g, 8, none⟩ = false := KK3.out.free 8
 have cc3 : w6.cell? ⟨g, 8, none⟩ = some (.slice a3 n3 m3) := KK3.out.cell 8
 clear ho3 hb3 c3
 go_upto_region 4 with fail
 clear f3 cc3
 obtain ⟨w7, hw7⟩ : ∃ w', w' = w6.setCell ⟨g, 8, none⟩ (.slice q3 n3 r3) := ⟨_, rfl⟩
 have B7 := Lib.hid (show Below w.heap.size w w7 by rw [hw7]; exact (B5.out.trans (D3.out.mono B5.out.size)).setCell (by show w.heap.size ≤ g; rw [HG.out]; exact Nat.le_refl _) _)
 have K7 := Lib.hid (show Blk w7 g (stA s (.slice q1 n1 r1) (.slice q2 n2 r2) (.slice q3 n3 r3) (.slice a4 n4 m4)) 40 by
  rw [hw7]
  have := KK3.out.set 8 (.slice q3 n3 r3)
  rw [st_set8] at this
  exact this)
 have Z7 := Lib.hid (show Blk w7 (g + 1) zz 40 by rw [hw7]; exact ZZ3.out.other (a := ⟨g, 8, none⟩) (by show g ≠ g + 1; omega) _)
 have L7 := Lib.hid (show w6.heap.size ≤ w7.heap.size by rw [hw7]; simp)
 have I3 := Lib.hid (show Own w7 w5.heap.size 105 8 srC (.slice q3 n3 r3) s.st by rw [hw7]; exact P3.out.setCell (own_not P3.out (by have := L1.out; have := S5.out; show g < _; omega)) _)
 have I1 := Lib.hid (show Own w7 w1.heap.size 73 21 poC (.slice q1 n1 r1) s.po by rw [hw7]; exact (I1.out.next D3.out).setCell (own_not I1.out (by have := L1.out; have := S1.out; show g < _; omega)) _)
 have I2 := Lib.hid (show Own w7 w3.heap.size 98 3 vrC (.slice q2 n2 r2) s.vl by rw [hw7]; exact (I2.out.next D3.out).setCell (own_not I2.out (by have := L1.out; have := S3.out; show g < _; omega)) _)
 have O7 := Lib.hid (show OwS w7 B s (.slice a1 n1 m1) (.slice a2 n2 m2) (.slice a3 n3 m3) (.slice a4 n4 m4) by
  have h := O5.out.next D3.out
  rw [hw7]
  exact ⟨h.o1.setCell (X1.out g (by rw [HG.out]; exact Nat.le_refl _)) _, h.o2.setCell (X2.out g (by rw [HG.out]; exact Nat.le_refl _)) _, h.o3.setCell (X3.out g (by rw [HG.out]; exact Nat.le_refl _)) _, h.o4.setCell (X4.out g (by rw [HG.out]; exact Nat.le_refl _)) _, h.few⟩)
 have S7 := Lib.hid (show w1.heap.size ≤ w7.heap.size from Nat.le_trans S5.out (Nat.le_trans D3.out.size L7.out))
 have T7 := Lib.hid (show w5.heap.size ≤ w6.heap.size from D3.out.size)
 rw [← hw7]
 clear hw7
 have c4 : w7.cell? ⟨g, 9, none⟩ = some (.slice a4 n4 m4) := K7.out.cell 9
 have C4 := Lib.hid (clone_fr O7.out.o4 (by have := HF.out; omega))
 go_wp2_with fail
 refine C4.out.mono ?_
 rintro e w8 ⟨u4, rfl, ho4, hb4⟩
 obtain ⟨q4, r4, eu4, -⟩ := ho4.shape
 rw [← N4.out] at eu4
 subst eu4
 have P4 := Lib.hid ho4
 have D4 := Lib.hid hb4
 have KK4 := Lib.hid (K7.out.below hb4 K7.out.lt)
 have ZZ4 := Lib.hid (Z7.out.below hb4 Z7.out.lt)
 have f4 : w8.frozen? ⟨g, 9, none⟩ = false := KK4.out.free 9
 have cc4 : w8.cell? ⟨g, 9, none⟩ = some (.slice a4 n4 m4) := KK4.out.cell 9
 clear ho4 hb4 c4
 go_upto_region 5 with fail
 clear f4 cc4
 obtain ⟨w9, hw9⟩ : ∃ w', w' = w8.setCell ⟨g, 9, none⟩ (.slice q4 n4 r4) := ⟨_, rfl⟩
 have B9 := Lib.hid (show Below w.heap.size w w9 by rw [hw9]; exact (B7.out.trans (D4.out.mono B7.out.size)).setCell (by show w.heap.size ≤ g; rw [HG.out]; exact Nat.le_refl _) _)
 have K9 := Lib.hid (show Blk w9 g (stA s (.slice q1 n1 r1) (.slice q2 n2 r2) (.slice q3 n3 r3) (.slice q4 n4 r4)) 40 by
  rw [hw9]
  have := KK4.out.set 9 (.slice q4 n4 r4)
  rw [st_set9] at this
  exact this)
 have Z9 := Lib.hid (show Blk w9 (g + 1) zz 40 by rw [hw9]; exact ZZ4.out.other (a := ⟨g, 9, none⟩) (by show g ≠ g + 1; omega) _)
 have L9 := Lib.hid (show w8.heap.size ≤ w9.heap.size by rw [hw9]; simp)
 have I4 := Lib.hid (show Own w9 w7.heap.size 108 9 frC (.slice q4 n4 r4) s.fd by rw [hw9]; exact P4.out.setCell (own_not P4.out (by have := L1.out; have := S7.out; show g < _; omega)) _)
 have I1 := Lib.hid (show Own w9 w1.heap.size 73 21 poC (.slice q1 n1 r1) s.po by rw [hw9]; exact (I1.out.next D4.out).setCell (own_not I1.out (by have := L1.out; have := S1.out; show g < _; omega)) _)
 have I2 := Lib.hid (show Own w9 w3.heap.size 98 3 vrC (.slice q2 n2 r2) s.vl by rw [hw9]; exact (I2.out.next D4.out).setCell (own_not I2.out (by have := L1.out; have := S3.out; show g < _; omega)) _)
 have I3 := Lib.hid (show Own w9 w5.heap.size 105 8 srC (.slice q3 n3 r3) s.st by rw [hw9]; exact (I3.out.next D4.out).setCell (own_not I3.out (by have := L1.out; have := S5.out; show g < _; omega)) _)
 have O9 := Lib.hid (show OwS w9 B s (.slice a1 n1 m1) (.slice a2 n2 m2) (.slice a3 n3 m3) (.slice a4 n4 m4) by
  have h := O7.out.next D4.out
  rw [hw9]
  exact ⟨h.o1.setCell (X1.out g (by rw [HG.out]; exact Nat.le_refl _)) _, h.o2.setCell (X2.out g (by rw [HG.out]; exact Nat.le_refl _)) _, h.o3.setCell (X3.out g (by rw [HG.out]; exact Nat.le_refl _)) _, h.o4.setCell (X4.out g (by rw [HG.out]; exact Nat.le_refl _)) _, h.few⟩)
 have S9 := Lib.hid (show w1.heap.size ≤ w9.heap.size from Nat.le_trans S7.out (Nat.le_trans D4.out.size L9.out))
 have T9 := Lib.hid (show w7.heap.size ≤ w8.heap.size from D4.out.size)
 rw [← hw9]
 clear hw9
 have OF := Lib.hid (show OwS w9 w.heap.size s (.slice q1 n1 r1) (.slice q2 n2 r2) (.slice q3 n3 r3) (.slice q4 n4 r4) from ⟨I1.out.mono (B1.out.size), I2.out.mono (Nat.le_trans B1.out.size S3.out), I3.out.mono (Nat.le_trans B1.out.size S5.out), I4.out.mono (Nat.le_trans B1.out.size S7.out), HF.out⟩)
 have AP := Lib.hid (show Apart (.slice q1 n1 r1) (.slice q2 n2 r2) (.slice q3 n3 r3) (.slice q4 n4 r4) from ⟨own_apart P1.out P2.out L3.out, own_apart P1.out P3.out (Nat.le_trans L3.out (Nat.le_trans T5.out L5.out)), own_apart P1.out P4.out (Nat.le_trans L3.out (Nat.le_trans T5.out (Nat.le_trans L5.out (Nat.le_trans T7.out L7.out)))), own_apart P2.out P3.out L5.out, own_apart P2.out P4.out (Nat.le_trans L5.out (Nat.le_trans T7.out L7.out)), own_apart P3.out P4.out L7.out⟩)
 obtain ⟨r, hr⟩ : ∃ r, r = stA s (.slice q1 n1 r1) (.slice q2 n2 r2) (.slice q3 n3 r3) (.slice q4 n4 r4) := ⟨_, rfl⟩
 have IR := Lib.hid (show (Tryd.prog.info? 40).map (·.size) = some r.size by rw [hr]; exact st_info s _ _ _ _)
 have SR := Lib.hid (show r.size = 25 by rw [hr]; rfl)
 have OR := Lib.hid (show r.all (·.oneCell') = true by rw [hr]; exact st_one OF.out)
 have K9' := Lib.hid (show Blk w9 g r 40 by rw [hr]; exact K9.out)
 have HR := Lib.hid hr
 clear hr
 refine wp_region_lit ?_
 refine wpList_val (.agg r) (by rfl) (run_loadVar_of 40 _ rfl g rfl 40 r _ K9'.out Tryd.underlying40 rfl IR.out) ?_
 (try simp only [Act.put, List.getElem_toArray, List.getElem_cons_succ, List.getElem_cons_zero, List.setIfInBounds_toArray, List.set_cons_zero, List.set_cons_succ])
 refine wpList_store_row rfl 40 _ _ rfl (g + 1) r rfl rfl 40 zz Z9.out IR.out (by rw [ZS.out, SR.out]) OR.out ?_
 (try simp only [Act.put, List.getElem_toArray, List.getElem_cons_succ, List.getElem_cons_zero, List.setIfInBounds_toArray, List.set_cons_zero, List.set_cons_succ])
 refine wpList_nil ?_
 go_wp2_with fail
 refine bodyPost_ret (v := .agg r) (results_cell_row Tryd.results8 _ _ (g + 1) 40 _ (0, 0) _ rfl (Z9.out.row _) Tryd.underlying40 rfl IR.out) rfl ?_
 refine ⟨_, _, _, _, by rw [HR.out], ?_, AP.out, below_setRow B9.out (by rw [HG.out]; omega) _⟩
 exact own_row OF.out (own_not I1.out (by have := L1.out; have := S1.out; omega)) (own_not I2.out (by have := L1.out; have := S3.out; omega)) (own_not I3.out (by have := L1.out; have := S5.out; omega)) (own_not I4.out (by have := L1.out; have := S7.out; omega)) r
end
section
open Go.RowKit
section
variable {P : Program} {ops : Array Oper} {Q : Exit → Act → World → Prop}
theorem wp_region_lastW {id : Nat} {a : Act} {w : World} (n : Nat) (I : (Nat → Bool) → Act → World → Prop) (hm : P.follows .mixedOrders = true) (hd : dag ops = true) (hc : covers ops n = true) (h0 : I (fun _ => false) a w.drew)
 (hs : ∀ i, i < n → ∀ L a w', I L a w' → L i = false → (∀ j ∈ afters ops i, L j = true) → wpOp P ops Q i (fun a' w'' => I (upd L i) a' w'') a w')
 (hl : ∀ L a w', I L a w' → (∀ i, i < n → L i = true) → wpOp P ops Q n (fun a' w'' => Q .normal a' w'') a w') : (Code.region id ops true).wp P Q a w := by
 unfold covers at hc
 rw [Bool.and_eq_true, beq_iff_eq, List.all_eq_true] at hc
 obtain ⟨hsz, hcov⟩ := hc
 have hall : ∀ L : Nat → Bool, (∀ i, L i = true → ∀ j ∈ afters ops i, L j = true) → (∀ j ∈ afters ops n, L j = true) → ∀ i, i < n → L i = true := fun L hdc hn i hi => by
  have := hcov i (List.mem_range.2 hi)
  exact reach_true hdc n _ hn i (by simpa using this)
 have hup : ∀ (L : Nat → Bool) (i : Nat), (∀ i, L i = true → ∀ j ∈ afters ops i, L j = true) → (∀ j ∈ afters ops i, L j = true) → ∀ k, upd L i k = true → ∀ j ∈ afters ops k, upd L i j = true := fun L i hdc ha k hk j hj => by
  have base : L j = true := by
   by_cases c : k = i
   ·
    exact ha j (c ▸ hj)
   ·
    unfold upd at hk
    rw [if_neg c] at hk
    exact hdc k hk j hj
  unfold upd
  split
  ·
   rfl
  ·
   exact base
 refine wp_region_inv (I := fun L a w' => (∀ i, L i = true → ∀ j ∈ afters ops i, L j = true) ∧ (L n = false → I L a w') ∧ (L n = true → Q .normal a w')) hm hd
  ⟨fun i h => Bool.noConfusion h, fun _ => h0, fun h => Bool.noConfusion h⟩ ?_ ?_
 ·
  rintro i hi L a w' ⟨hdc, hA, hB⟩ hLi haft
  have hLn : L n = false ∨ L n = true := by cases L n <;> simp
  by_cases c : i = n
  ·
   subst c
   have hI := hA hLi
   refine wpOp_mono (fun a' w' hq => ?_) (hl L a w' hI (hall L hdc haft))
   refine ⟨hup L i hdc haft, fun q => ?_, fun _ => hq⟩
   unfold upd at q
   rw [if_pos rfl] at q
   cases q
  ·
   have hin : i < n := by omega
   rcases hLn with q | q
   ·
    have hI := hA q
    refine wpOp_mono (fun a' w' hq => ?_) (hs i hin L a w' hI hLi haft)
    refine ⟨hup L i hdc haft, fun _ => hq, fun r => ?_⟩
    unfold upd at r
    rw [if_neg (fun e => c e.symm), q] at r
    cases r
   ·
    have := hall L hdc (hdc n q) i hin
    rw [hLi] at this
    cases this
 ·
  rintro L a w' ⟨hdc, hA, hB⟩ h
  exact hB (h n (by omega))
end
theorem app_trans {a b c : World} {r : Option Nat} (h1 : a.grownBy b r) (h2 : b.grownBy c r) : a.grownBy c r :=
 ⟨h2.os.trans h1.os, h2.tape.trans h1.tape, h2.output.trans h1.output, Nat.le_trans h1.size h2.size, fun i hi hr => (h2.block i (Nat.lt_of_lt_of_le hi h1.size) hr).trans (h1.block i hi hr)⟩
theorem grown_next {a b c : World} {r : Option Nat} (h1 : a.grownBy b r) (h2 : Below b.heap.size b c) : a.grownBy c r :=
 ⟨h2.os.trans h1.os, h2.tape.trans h1.tape, h2.output.trans h1.output, Nat.le_trans h1.size h2.size, fun i hi hr => (h2.block i (Nat.lt_of_lt_of_le hi h1.size)).trans (h1.block i hi hr)⟩
structure ApW {α : Type} (w1 : World) (B : Nat) (e : TypeId) (size : Nat) (enc : α → List Value) (cur : Value) (l : List α) (x : α) (s r : Bool) (vS vR : Value) (w : World) : Prop where
 g : w1.grownBy w cur.ownBlock
 pc : r = false → Own w B e size enc cur l
 ps : s = true → r = false → Own w w1.heap.size e size enc vS [x]
 pr : r = true → Own w B e size enc vR (l ++ [x])
 pb : r = true → ∀ k, vR.ownBlock = some k → cur.ownBlock = some k ∨ w1.heap.size ≤ k
 o : r = true → s = true
 low : B ≤ w1.heap.size
section
variable {α : Type} {P : Program} {t e : TypeId} {size B : Nat} {enc : α → List Value} {w1 w w' : World} {cur vS vR : Value} {l : List α} {x : α} {s r : Bool}
theorem ApW.start (h : Own w1 B e size enc cur l) (hB : B ≤ w1.heap.size) : ApW w1 B e size enc cur l x false false vS vR w1.drew :=
 ⟨grown_next (World.grownBy.refl w1 _) (Below.refl _ _).drew, fun _ => h.drew, (fun q => Bool.noConfusion q), (fun q => Bool.noConfusion q), (fun q => Bool.noConfusion q), (fun q => Bool.noConfusion q), hB⟩
theorem ApW.next (h : ApW w1 B e size enc cur l x s r vS vR w) (hb : Below w.heap.size w w') : ApW w1 B e size enc cur l x s r vS vR w' :=
 ⟨grown_next h.g hb, fun q => (h.pc q).next hb, fun q q2 => (h.ps q q2).next hb, fun q => (h.pr q).next hb, h.pb, h.o, h.low⟩
theorem ApW.made (E : ElT P t e size enc) (h : ApW w1 B e size enc cur l x s r vS vR w) (hn : s = false) (arr : Array Value) (ha : arr.toList = enc x) : ApW w1 B e size enc cur l x true r (.slice (some ⟨w.heap.size, 0, none⟩) 1 1) vR (w.alloc (.cells arr e)) := by
 have hr : r = false := by cases c : r with | false => rfl | true => have := h.o c; rw [hn] at this; cases this
 subst hr
 refine ⟨grown_next h.g ((Below.refl _ _).alloc (Nat.le_refl _) _), fun q => (h.pc q).alloc _, fun _ _ => ?_, (fun q => Bool.noConfusion q), (fun q => Bool.noConfusion q), fun _ => rfl, h.low⟩
 have := Own.lit (e := e) (base := w1.heap.size) w h.g.size E.len [x] (by simp [maxLen])
 have e1 : (cellsL enc [x]).toArray = arr := by
  have : cellsL enc [x] = enc x := by simp [cellsL]
  rw [this, ← ha]
 rw [e1] at this
 exact this
theorem ApW.app (E : ElT P t e size enc) (h : ApW w1 B e size enc cur l x s r vS vR w) (hs : s = true) (hn : r = false) (hl : l.length ≤ 1000) (ty : TypeId) :
 ∃ v' w', (Builtin.append_ #[t, t] ty #[cur, vS]).run P w = .ok v' w' ∧ ApW w1 B e size enc cur l x true true vS v' w' := by
 obtain ⟨v', w', hr, ho, hg, hv⟩ := E.app (h.pc hn) (h.ps hs hn).src (by simp; omega) (Nat.le_trans h.low h.g.size) ty
 refine ⟨v', w', hr, ⟨app_trans h.g hg, (fun q => Bool.noConfusion q), (fun _ q => Bool.noConfusion q), fun _ => ho, fun _ k hk => ?_, fun _ => rfl, h.low⟩⟩
 rcases hv with c | c
 ·
  exact .inl (c ▸ hk)
 ·
  rw [c] at hk
  injection hk with hk
  exact .inr (by have := h.g.size; omega)
end
end
end Go.Proofs.YtebnpblincgjlaaDoor
