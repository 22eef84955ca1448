/- What the laws of layer 16 ask first; equality. -/
import Derived.Test.YtojijeaofkndpaaIn2
import Derived.Test.YtojijeaofkndpaaIn3
import Derived.Test.YtojijeaofkndpaaIn4
import Derived.Test.YtojijeaofkndpaaIn5
namespace Go.Proofs.Ytojijeaofkndpaa
open Go.RowKit
attribute [local irreducible] wpQuiet wpList
set_option linter.unusedSimpArgs false
set_option linter.unusedVariables false

theorem eq_po (x : Po) (W : World) : (Op.equalIn 10000 62 (poV x) (poV x)).run Try.prog W = .ok true W := by have h := equal_po x x W; rwa [eqB_self] at h
theorem hear_is (y : Po) (u v : Vc) (x : Po) (age : Int) (c : Cf) (q : Po) (k : Int) (hy : y = poU x u) (hp : hearP x u v age c = q) (hn : hearN x u v age c = k) (w : World) : Calls Try.prog 17 #[poV y, vcV v, .int .i64 age, cfV c] w fun e w' => e = .returned (.tuple #[poV q, .int .i64 k]) ∧ Below w.heap.size w w' := by
  subst hy hp hn
  exact hear_any x u v age c w
theorem fade_is (x q : Po) (b : Bool) (hp : fadeP x = q) (hb : fadeB x = b) (w : World) : Calls Try.prog 18 #[poV x] w fun e w' => e = .returned (.tuple #[poV q, .bool b]) ∧ Below w.heap.size w w' := by
  subst hp hb
  exact fade_any x w
theorem switch_is (x : Po) (up ad : Bool) (c : Cf) (q : Po) (h : switchP x up ad c.p3 = q) (w : World) : Calls Try.prog 19 #[poV x, .bool up, .bool ad, cfV c] w fun e w' => e = .returned (poV q) ∧ Below w.heap.size w w' := h ▸ switch_any x up ad c w
theorem made_is (x : Lp) (q : Po) (h : madeP x = q) (w : World) : Calls Try.prog 15 #[.agg (lpA x)] w fun e w' => e = .returned (poV q) ∧ Below w.heap.size w w' := h ▸ imade_any x w
set_option maxRecDepth 100000 in
set_option maxHeartbeats 8000000 in
theorem ispeaks_any (w : World) : Calls Try.prog 14 #[] w fun e w' => e = .returned (.bool true) ∧ Below w.heap.size w w' := by
  have K := Lib.hid (Kb.nil w)
  go_enter Try.func14, Try.ntmps14
  go_upto_region 0 with fail
  refine wp_region_lit ?_
  refine wpList_val (.bool false) (by rfl) (by go_simp) ?_
  (try simp only [Act.put, List.getElem_toArray, List.getElem_cons_succ, List.getElem_cons_zero, List.setIfInBounds_toArray, List.set_cons_zero, List.set_cons_succ])
  refine wpList_nil ?_
  go_upto_region 1 with fail
  refine wp_region_lit ?_
  refine wpList_val (.agg (cfA ⟨0, 9, 2, 4, 0, 0⟩)) (by rfl) (run_build_of 58 [(1, .const (.int .i64 9)), (2, .const (.int .i64 2)), (3, .const (.int .i64 4))] rfl _ (cfA ⟨0, 9, 2, 4, 0, 0⟩) rfl (by kernel_rfl)) ?_
  (try simp only [Act.put, List.getElem_toArray, List.getElem_cons_succ, List.getElem_cons_zero, List.setIfInBounds_toArray, List.set_cons_zero, List.set_cons_succ])
  refine kb_alloc K.out 58 (nil6) rfl zC (by rfl) ?_
  intro b1 w1 hb1 hk
  have K1 := Lib.hid (show Kb w [(b1, nil6, 58)] w1 from hk)
  clear hk hb1
  (try simp only [Act.put, List.getElem_toArray, List.getElem_cons_succ, List.getElem_cons_zero, List.setIfInBounds_toArray, List.set_cons_zero, List.set_cons_succ])
  refine kb_row K1.out 0 rfl 58 _ _ (cfA ⟨0, 9, 2, 4, 0, 0⟩) rfl rfl rfl rfl (size34) (by rfl) (by kernel_rfl) ?_
  intro w2 hk
  have K2 := Lib.hid (show Kb w [(b1, cfA ⟨0, 9, 2, 4, 0, 0⟩, 58)] w2 from hk)
  clear hk
  (try simp only [Act.put, List.getElem_toArray, List.getElem_cons_succ, List.getElem_cons_zero, List.setIfInBounds_toArray, List.set_cons_zero, List.set_cons_succ])
  refine wpList_nil ?_
  go_upto_region 2 with fail
  refine wp_region_lit ?_
  refine wpList_val (.agg (poA ⟨0, 0, false, 0, 0, false, false, false, false, false, 0, 0, 0, 0, 0, 0, 0, 0, 0, 0, 0⟩)) (by rfl) (run_build_of 62 [] rfl [] (poA ⟨0, 0, false, 0, 0, false, false, false, false, false, 0, 0, 0, 0, 0, 0, 0, 0, 0, 0, 0⟩) rfl (by kernel_rfl)) ?_
  (try simp only [Act.put, List.getElem_toArray, List.getElem_cons_succ, List.getElem_cons_zero, List.setIfInBounds_toArray, List.set_cons_zero, List.set_cons_succ])
  refine wpList_val (.agg (cfA ⟨0, 9, 2, 4, 0, 0⟩)) (by rfl) (kb_all K2.out 0 rfl 58 _ rfl rfl Try.underlying58 rfl (size34)) ?_
  (try simp only [Act.put, List.getElem_toArray, List.getElem_cons_succ, List.getElem_cons_zero, List.setIfInBounds_toArray, List.set_cons_zero, List.set_cons_succ])
  refine kb_call K2.out 19 #[.agg (poA ⟨0, 0, false, 0, 0, false, false, false, false, false, 0, 0, 0, 0, 0, 0, 0, 0, 0, 0, 0⟩), .bool true, .bool true, .agg (cfA ⟨0, 9, 2, 4, 0, 0⟩)] (.agg (poA ⟨0, 0, false, 0, 0, false, true, true, true, false, 0, 0, 0, 0, 0, 0, 0, 0, 0, 4, 0⟩)) (by rfl) (by go_simp) (switch_is ⟨0, 0, false, 0, 0, false, false, false, false, false, 0, 0, 0, 0, 0, 0, 0, 0, 0, 0, 0⟩ true true ⟨0, 9, 2, 4, 0, 0⟩ ⟨0, 0, false, 0, 0, false, true, true, true, false, 0, 0, 0, 0, 0, 0, 0, 0, 0, 4, 0⟩ (by kernel_rfl) w2) ?_
  intro w3 hk
  have K3 := Lib.hid (show Kb w [(b1, cfA ⟨0, 9, 2, 4, 0, 0⟩, 58)] w3 from hk)
  clear hk
  (try simp only [Act.put, List.getElem_toArray, List.getElem_cons_succ, List.getElem_cons_zero, List.setIfInBounds_toArray, List.set_cons_zero, List.set_cons_succ])
  refine kb_alloc K3.out 62 (nil21) rfl z50 (by rfl) ?_
  intro b4 w4 hb4 hk
  have K4 := Lib.hid (show Kb w [(b1, cfA ⟨0, 9, 2, 4, 0, 0⟩, 58), (b4, nil21, 62)] w4 from hk)
  clear hk hb4
  (try simp only [Act.put, List.getElem_toArray, List.getElem_cons_succ, List.getElem_cons_zero, List.setIfInBounds_toArray, List.set_cons_zero, List.set_cons_succ])
  refine kb_row K4.out 1 rfl 62 _ _ (poA ⟨0, 0, false, 0, 0, false, true, true, true, false, 0, 0, 0, 0, 0, 0, 0, 0, 0, 4, 0⟩) rfl rfl rfl rfl (size50) (by rfl) (po_all _) ?_
  intro w5 hk
  have K5 := Lib.hid (show Kb w [(b1, cfA ⟨0, 9, 2, 4, 0, 0⟩, 58), (b4, poA ⟨0, 0, false, 0, 0, false, true, true, true, false, 0, 0, 0, 0, 0, 0, 0, 0, 0, 4, 0⟩, 62)] w5 from hk)
  clear hk
  (try simp only [Act.put, List.getElem_toArray, List.getElem_cons_succ, List.getElem_cons_zero, List.setIfInBounds_toArray, List.set_cons_zero, List.set_cons_succ])
  refine wpList_nil ?_
  go_upto_region 3 with fail
  refine wp_region_lit ?_
  refine wpList_val (.agg (poA ⟨0, 0, false, 0, 0, false, true, true, true, false, 0, 0, 0, 0, 0, 0, 0, 0, 0, 4, 0⟩)) (by rfl) (kb_all K5.out 1 rfl 62 _ rfl rfl Try.underlying62 rfl (size50)) ?_
  (try simp only [Act.put, List.getElem_toArray, List.getElem_cons_succ, List.getElem_cons_zero, List.setIfInBounds_toArray, List.set_cons_zero, List.set_cons_succ])
  refine wpList_val (.agg (vcA ⟨3, 0, 3, 0⟩)) (by rfl) (run_build_of 44 [(0, .const (.int .u64 3)), (2, .const (.int .u64 3))] rfl _ (vcA ⟨3, 0, 3, 0⟩) rfl (by kernel_rfl)) ?_
  (try simp only [Act.put, List.getElem_toArray, List.getElem_cons_succ, List.getElem_cons_zero, List.setIfInBounds_toArray, List.set_cons_zero, List.set_cons_succ])
  refine wpList_val (.agg (cfA ⟨0, 9, 2, 4, 0, 0⟩)) (by rfl) (kb_all K5.out 0 rfl 58 _ rfl rfl Try.underlying58 rfl (size34)) ?_
  (try simp only [Act.put, List.getElem_toArray, List.getElem_cons_succ, List.getElem_cons_zero, List.setIfInBounds_toArray, List.set_cons_zero, List.set_cons_succ])
  refine kb_call K5.out 17 #[.agg (poA ⟨0, 0, false, 0, 0, false, true, true, true, false, 0, 0, 0, 0, 0, 0, 0, 0, 0, 4, 0⟩), .agg (vcA ⟨3, 0, 3, 0⟩), .int .i64 1, .agg (cfA ⟨0, 9, 2, 4, 0, 0⟩)] (.tuple #[.agg (poA ⟨0, 0, false, 0, 0, false, true, true, true, false, 0, 0, 2, 3, 0, 3, 0, 1, 6, 4, 0⟩), .int .i64 3]) (by rfl) (by go_simp) (hear_is ⟨0, 0, false, 0, 0, false, true, true, true, false, 0, 0, 0, 0, 0, 0, 0, 0, 0, 4, 0⟩ ⟨0, 0, 0, 0⟩ ⟨3, 0, 3, 0⟩ ⟨0, 0, false, 0, 0, false, true, true, true, false, 0, 0, 0, 0, 0, 0, 0, 0, 0, 4, 0⟩ 1 ⟨0, 9, 2, 4, 0, 0⟩ ⟨0, 0, false, 0, 0, false, true, true, true, false, 0, 0, 2, 3, 0, 3, 0, 1, 6, 4, 0⟩ 3 (by kernel_rfl) (by kernel_rfl) (by kernel_rfl) w5) ?_
  intro w6 hk
  have K6 := Lib.hid (show Kb w [(b1, cfA ⟨0, 9, 2, 4, 0, 0⟩, 58), (b4, poA ⟨0, 0, false, 0, 0, false, true, true, true, false, 0, 0, 0, 0, 0, 0, 0, 0, 0, 4, 0⟩, 62)] w6 from hk)
  clear hk
  (try simp only [Act.put, List.getElem_toArray, List.getElem_cons_succ, List.getElem_cons_zero, List.setIfInBounds_toArray, List.set_cons_zero, List.set_cons_succ])
  refine wpList_val (.tuple #[.agg (poA ⟨0, 0, false, 0, 0, false, true, true, true, false, 0, 0, 2, 3, 0, 3, 0, 1, 6, 4, 0⟩), .int .i64 3]) (by rfl) (by go_simp) ?_
  (try simp only [Act.put, List.getElem_toArray, List.getElem_cons_succ, List.getElem_cons_zero, List.setIfInBounds_toArray, List.set_cons_zero, List.set_cons_succ])
  refine wpList_val (.agg (poA ⟨0, 0, false, 0, 0, false, true, true, true, false, 0, 0, 2, 3, 0, 3, 0, 1, 6, 4, 0⟩)) (by rfl) (by go_simp) ?_
  (try simp only [Act.put, List.getElem_toArray, List.getElem_cons_succ, List.getElem_cons_zero, List.setIfInBounds_toArray, List.set_cons_zero, List.set_cons_succ])
  refine wpList_val (.int .i64 3) (by rfl) (by go_simp) ?_
  (try simp only [Act.put, List.getElem_toArray, List.getElem_cons_succ, List.getElem_cons_zero, List.setIfInBounds_toArray, List.set_cons_zero, List.set_cons_succ])
  refine kb_alloc K6.out 62 (nil21) rfl z50 (by rfl) ?_
  intro b7 w7 hb7 hk
  have K7 := Lib.hid (show Kb w [(b1, cfA ⟨0, 9, 2, 4, 0, 0⟩, 58), (b4, poA ⟨0, 0, false, 0, 0, false, true, true, true, false, 0, 0, 0, 0, 0, 0, 0, 0, 0, 4, 0⟩, 62), (b7, nil21, 62)] w7 from hk)
  clear hk hb7
  (try simp only [Act.put, List.getElem_toArray, List.getElem_cons_succ, List.getElem_cons_zero, List.setIfInBounds_toArray, List.set_cons_zero, List.set_cons_succ])
  refine kb_row K7.out 2 rfl 62 _ _ (poA ⟨0, 0, false, 0, 0, false, true, true, true, false, 0, 0, 2, 3, 0, 3, 0, 1, 6, 4, 0⟩) rfl rfl rfl rfl (size50) (by rfl) (po_all _) ?_
  intro w8 hk
  have K8 := Lib.hid (show Kb w [(b1, cfA ⟨0, 9, 2, 4, 0, 0⟩, 58), (b4, poA ⟨0, 0, false, 0, 0, false, true, true, true, false, 0, 0, 0, 0, 0, 0, 0, 0, 0, 4, 0⟩, 62), (b7, poA ⟨0, 0, false, 0, 0, false, true, true, true, false, 0, 0, 2, 3, 0, 3, 0, 1, 6, 4, 0⟩, 62)] w8 from hk)
  clear hk
  (try simp only [Act.put, List.getElem_toArray, List.getElem_cons_succ, List.getElem_cons_zero, List.setIfInBounds_toArray, List.set_cons_zero, List.set_cons_succ])
  refine wpList_val (.int .i64 3) (by rfl) (by go_simp) ?_
  (try simp only [Act.put, List.getElem_toArray, List.getElem_cons_succ, List.getElem_cons_zero, List.setIfInBounds_toArray, List.set_cons_zero, List.set_cons_succ])
  refine wpList_nil ?_
  go_upto_region 4 with fail
  refine wp_region_lit ?_
  refine wpList_val (.agg (poA ⟨0, 0, false, 0, 0, false, true, true, true, false, 0, 0, 2, 3, 0, 3, 0, 1, 6, 4, 0⟩)) (by rfl) (kb_all K8.out 2 rfl 62 _ rfl rfl Try.underlying62 rfl (size50)) ?_
  (try simp only [Act.put, List.getElem_toArray, List.getElem_cons_succ, List.getElem_cons_zero, List.setIfInBounds_toArray, List.set_cons_zero, List.set_cons_succ])
  refine wpList_val (.agg (vcA ⟨3, 0, 3, 0⟩)) (by rfl) (run_build_of 44 [(0, .const (.int .u64 3)), (2, .const (.int .u64 3))] rfl _ (vcA ⟨3, 0, 3, 0⟩) rfl (by kernel_rfl)) ?_
  (try simp only [Act.put, List.getElem_toArray, List.getElem_cons_succ, List.getElem_cons_zero, List.setIfInBounds_toArray, List.set_cons_zero, List.set_cons_succ])
  refine wpList_val (.agg (cfA ⟨0, 9, 2, 4, 0, 0⟩)) (by rfl) (kb_all K8.out 0 rfl 58 _ rfl rfl Try.underlying58 rfl (size34)) ?_
  (try simp only [Act.put, List.getElem_toArray, List.getElem_cons_succ, List.getElem_cons_zero, List.setIfInBounds_toArray, List.set_cons_zero, List.set_cons_succ])
  refine kb_call K8.out 17 #[.agg (poA ⟨0, 0, false, 0, 0, false, true, true, true, false, 0, 0, 2, 3, 0, 3, 0, 1, 6, 4, 0⟩), .agg (vcA ⟨3, 0, 3, 0⟩), .int .i64 1, .agg (cfA ⟨0, 9, 2, 4, 0, 0⟩)] (.tuple #[.agg (poA ⟨0, 0, false, 0, 0, false, true, true, true, false, 0, 0, 2, 3, 0, 3, 0, 1, 6, 4, 0⟩), .int .i64 2]) (by rfl) (by go_simp) (hear_is ⟨0, 0, false, 0, 0, false, true, true, true, false, 0, 0, 2, 3, 0, 3, 0, 1, 6, 4, 0⟩ ⟨3, 0, 3, 0⟩ ⟨3, 0, 3, 0⟩ ⟨0, 0, false, 0, 0, false, true, true, true, false, 0, 0, 2, 3, 0, 3, 0, 1, 6, 4, 0⟩ 1 ⟨0, 9, 2, 4, 0, 0⟩ ⟨0, 0, false, 0, 0, false, true, true, true, false, 0, 0, 2, 3, 0, 3, 0, 1, 6, 4, 0⟩ 2 (by kernel_rfl) (by kernel_rfl) (by kernel_rfl) w8) ?_
  intro w9 hk
  have K9 := Lib.hid (show Kb w [(b1, cfA ⟨0, 9, 2, 4, 0, 0⟩, 58), (b4, poA ⟨0, 0, false, 0, 0, false, true, true, true, false, 0, 0, 0, 0, 0, 0, 0, 0, 0, 4, 0⟩, 62), (b7, poA ⟨0, 0, false, 0, 0, false, true, true, true, false, 0, 0, 2, 3, 0, 3, 0, 1, 6, 4, 0⟩, 62)] w9 from hk)
  clear hk
  (try simp only [Act.put, List.getElem_toArray, List.getElem_cons_succ, List.getElem_cons_zero, List.setIfInBounds_toArray, List.set_cons_zero, List.set_cons_succ])
  refine wpList_val (.tuple #[.agg (poA ⟨0, 0, false, 0, 0, false, true, true, true, false, 0, 0, 2, 3, 0, 3, 0, 1, 6, 4, 0⟩), .int .i64 2]) (by rfl) (by go_simp) ?_
  (try simp only [Act.put, List.getElem_toArray, List.getElem_cons_succ, List.getElem_cons_zero, List.setIfInBounds_toArray, List.set_cons_zero, List.set_cons_succ])
  refine wpList_val (.agg (poA ⟨0, 0, false, 0, 0, false, true, true, true, false, 0, 0, 2, 3, 0, 3, 0, 1, 6, 4, 0⟩)) (by rfl) (by go_simp) ?_
  (try simp only [Act.put, List.getElem_toArray, List.getElem_cons_succ, List.getElem_cons_zero, List.setIfInBounds_toArray, List.set_cons_zero, List.set_cons_succ])
  refine wpList_val (.int .i64 2) (by rfl) (by go_simp) ?_
  (try simp only [Act.put, List.getElem_toArray, List.getElem_cons_succ, List.getElem_cons_zero, List.setIfInBounds_toArray, List.set_cons_zero, List.set_cons_succ])
  refine kb_alloc K9.out 62 (nil21) rfl z50 (by rfl) ?_
  intro b10 w10 hb10 hk
  have K10 := Lib.hid (show Kb w [(b1, cfA ⟨0, 9, 2, 4, 0, 0⟩, 58), (b4, poA ⟨0, 0, false, 0, 0, false, true, true, true, false, 0, 0, 0, 0, 0, 0, 0, 0, 0, 4, 0⟩, 62), (b7, poA ⟨0, 0, false, 0, 0, false, true, true, true, false, 0, 0, 2, 3, 0, 3, 0, 1, 6, 4, 0⟩, 62), (b10, nil21, 62)] w10 from hk)
  clear hk hb10
  (try simp only [Act.put, List.getElem_toArray, List.getElem_cons_succ, List.getElem_cons_zero, List.setIfInBounds_toArray, List.set_cons_zero, List.set_cons_succ])
  refine kb_row K10.out 3 rfl 62 _ _ (poA ⟨0, 0, false, 0, 0, false, true, true, true, false, 0, 0, 2, 3, 0, 3, 0, 1, 6, 4, 0⟩) rfl rfl rfl rfl (size50) (by rfl) (po_all _) ?_
  intro w11 hk
  have K11 := Lib.hid (show Kb w [(b1, cfA ⟨0, 9, 2, 4, 0, 0⟩, 58), (b4, poA ⟨0, 0, false, 0, 0, false, true, true, true, false, 0, 0, 0, 0, 0, 0, 0, 0, 0, 4, 0⟩, 62), (b7, poA ⟨0, 0, false, 0, 0, false, true, true, true, false, 0, 0, 2, 3, 0, 3, 0, 1, 6, 4, 0⟩, 62), (b10, poA ⟨0, 0, false, 0, 0, false, true, true, true, false, 0, 0, 2, 3, 0, 3, 0, 1, 6, 4, 0⟩, 62)] w11 from hk)
  clear hk
  (try simp only [Act.put, List.getElem_toArray, List.getElem_cons_succ, List.getElem_cons_zero, List.setIfInBounds_toArray, List.set_cons_zero, List.set_cons_succ])
  refine wpList_val (.int .i64 2) (by rfl) (by go_simp) ?_
  (try simp only [Act.put, List.getElem_toArray, List.getElem_cons_succ, List.getElem_cons_zero, List.setIfInBounds_toArray, List.set_cons_zero, List.set_cons_succ])
  refine wpList_nil ?_
  go_upto_region 5 with fail
  refine wp_region_lit ?_
  refine wpList_val (.agg (poA ⟨0, 0, false, 0, 0, false, true, true, true, false, 0, 0, 2, 3, 0, 3, 0, 1, 6, 4, 0⟩)) (by rfl) (kb_all K11.out 2 rfl 62 _ rfl rfl Try.underlying62 rfl (size50)) ?_
  (try simp only [Act.put, List.getElem_toArray, List.getElem_cons_succ, List.getElem_cons_zero, List.setIfInBounds_toArray, List.set_cons_zero, List.set_cons_succ])
  refine wpList_val (.agg (vcA ⟨3, 0, 4, 0⟩)) (by rfl) (run_build_of 44 [(0, .const (.int .u64 3)), (2, .const (.int .u64 4))] rfl _ (vcA ⟨3, 0, 4, 0⟩) rfl (by kernel_rfl)) ?_
  (try simp only [Act.put, List.getElem_toArray, List.getElem_cons_succ, List.getElem_cons_zero, List.setIfInBounds_toArray, List.set_cons_zero, List.set_cons_succ])
  refine wpList_val (.agg (cfA ⟨0, 9, 2, 4, 0, 0⟩)) (by rfl) (kb_all K11.out 0 rfl 58 _ rfl rfl Try.underlying58 rfl (size34)) ?_
  (try simp only [Act.put, List.getElem_toArray, List.getElem_cons_succ, List.getElem_cons_zero, List.setIfInBounds_toArray, List.set_cons_zero, List.set_cons_succ])
  refine kb_call K11.out 17 #[.agg (poA ⟨0, 0, false, 0, 0, false, true, true, true, false, 0, 0, 2, 3, 0, 3, 0, 1, 6, 4, 0⟩), .agg (vcA ⟨3, 0, 4, 0⟩), .int .i64 1, .agg (cfA ⟨0, 9, 2, 4, 0, 0⟩)] (.tuple #[.agg (poA ⟨0, 0, false, 0, 0, false, true, true, true, false, 0, 0, 2, 3, 0, 3, 0, 1, 6, 4, 0⟩), .int .i64 1]) (by rfl) (by go_simp) (hear_is ⟨0, 0, false, 0, 0, false, true, true, true, false, 0, 0, 2, 3, 0, 3, 0, 1, 6, 4, 0⟩ ⟨3, 0, 3, 0⟩ ⟨3, 0, 4, 0⟩ ⟨0, 0, false, 0, 0, false, true, true, true, false, 0, 0, 2, 3, 0, 3, 0, 1, 6, 4, 0⟩ 1 ⟨0, 9, 2, 4, 0, 0⟩ ⟨0, 0, false, 0, 0, false, true, true, true, false, 0, 0, 2, 3, 0, 3, 0, 1, 6, 4, 0⟩ 1 (by kernel_rfl) (by kernel_rfl) (by kernel_rfl) w11) ?_
  intro w12 hk
  have K12 := Lib.hid (show Kb w [(b1, cfA ⟨0, 9, 2, 4, 0, 0⟩, 58), (b4, poA ⟨0, 0, false, 0, 0, false, true, true, true, false, 0, 0, 0, 0, 0, 0, 0, 0, 0, 4, 0⟩, 62), (b7, poA ⟨0, 0, false, 0, 0, false, true, true, true, false, 0, 0, 2, 3, 0, 3, 0, 1, 6, 4, 0⟩, 62), (b10, poA ⟨0, 0, false, 0, 0, false, true, true, true, false, 0, 0, 2, 3, 0, 3, 0, 1, 6, 4, 0⟩, 62)] w12 from hk)
  clear hk
  (try simp only [Act.put, List.getElem_toArray, List.getElem_cons_succ, List.getElem_cons_zero, List.setIfInBounds_toArray, List.set_cons_zero, List.set_cons_succ])
  refine wpList_val (.tuple #[.agg (poA ⟨0, 0, false, 0, 0, false, true, true, true, false, 0, 0, 2, 3, 0, 3, 0, 1, 6, 4, 0⟩), .int .i64 1]) (by rfl) (by go_simp) ?_
  (try simp only [Act.put, List.getElem_toArray, List.getElem_cons_succ, List.getElem_cons_zero, List.setIfInBounds_toArray, List.set_cons_zero, List.set_cons_succ])
  refine wpList_val (.agg (poA ⟨0, 0, false, 0, 0, false, true, true, true, false, 0, 0, 2, 3, 0, 3, 0, 1, 6, 4, 0⟩)) (by rfl) (by go_simp) ?_
  (try simp only [Act.put, List.getElem_toArray, List.getElem_cons_succ, List.getElem_cons_zero, List.setIfInBounds_toArray, List.set_cons_zero, List.set_cons_succ])
  refine wpList_val (.int .i64 1) (by rfl) (by go_simp) ?_
  (try simp only [Act.put, List.getElem_toArray, List.getElem_cons_succ, List.getElem_cons_zero, List.setIfInBounds_toArray, List.set_cons_zero, List.set_cons_succ])
  refine kb_alloc K12.out 62 (nil21) rfl z50 (by rfl) ?_
  intro b13 w13 hb13 hk
  have K13 := Lib.hid (show Kb w [(b1, cfA ⟨0, 9, 2, 4, 0, 0⟩, 58), (b4, poA ⟨0, 0, false, 0, 0, false, true, true, true, false, 0, 0, 0, 0, 0, 0, 0, 0, 0, 4, 0⟩, 62), (b7, poA ⟨0, 0, false, 0, 0, false, true, true, true, false, 0, 0, 2, 3, 0, 3, 0, 1, 6, 4, 0⟩, 62), (b10, poA ⟨0, 0, false, 0, 0, false, true, true, true, false, 0, 0, 2, 3, 0, 3, 0, 1, 6, 4, 0⟩, 62), (b13, nil21, 62)] w13 from hk)
  clear hk hb13
  (try simp only [Act.put, List.getElem_toArray, List.getElem_cons_succ, List.getElem_cons_zero, List.setIfInBounds_toArray, List.set_cons_zero, List.set_cons_succ])
  refine kb_row K13.out 4 rfl 62 _ _ (poA ⟨0, 0, false, 0, 0, false, true, true, true, false, 0, 0, 2, 3, 0, 3, 0, 1, 6, 4, 0⟩) rfl rfl rfl rfl (size50) (by rfl) (po_all _) ?_
  intro w14 hk
  have K14 := Lib.hid (show Kb w [(b1, cfA ⟨0, 9, 2, 4, 0, 0⟩, 58), (b4, poA ⟨0, 0, false, 0, 0, false, true, true, true, false, 0, 0, 0, 0, 0, 0, 0, 0, 0, 4, 0⟩, 62), (b7, poA ⟨0, 0, false, 0, 0, false, true, true, true, false, 0, 0, 2, 3, 0, 3, 0, 1, 6, 4, 0⟩, 62), (b10, poA ⟨0, 0, false, 0, 0, false, true, true, true, false, 0, 0, 2, 3, 0, 3, 0, 1, 6, 4, 0⟩, 62), (b13, poA ⟨0, 0, false, 0, 0, false, true, true, true, false, 0, 0, 2, 3, 0, 3, 0, 1, 6, 4, 0⟩, 62)] w14 from hk)
  clear hk
  (try simp only [Act.put, List.getElem_toArray, List.getElem_cons_succ, List.getElem_cons_zero, List.setIfInBounds_toArray, List.set_cons_zero, List.set_cons_succ])
  refine wpList_val (.int .i64 1) (by rfl) (by go_simp) ?_
  (try simp only [Act.put, List.getElem_toArray, List.getElem_cons_succ, List.getElem_cons_zero, List.setIfInBounds_toArray, List.set_cons_zero, List.set_cons_succ])
  refine wpList_nil ?_
  go_upto_region 6 with fail
  refine wp_region_lit ?_
  refine wpList_val (.pointer (some ⟨b4, 8, none⟩)) (by rfl) (by go_simp) ?_
  (try simp only [Act.put, List.getElem_toArray, List.getElem_cons_succ, List.getElem_cons_zero, List.setIfInBounds_toArray, List.set_cons_zero, List.set_cons_succ])
  refine wpList_val (.bool true) (by rfl) (by have q : w14.cell? ⟨b4, 8, none⟩ = some (.bool true) := K14.out.cell (i := 1) rfl (by rfl); go_simp) ?_
  (try simp only [Act.put, List.getElem_toArray, List.getElem_cons_succ, List.getElem_cons_zero, List.setIfInBounds_toArray, List.set_cons_zero, List.set_cons_succ])
  refine wpList_val (.bool true) (by rfl) (by go_simp) ?_
  (try simp only [Act.put, List.getElem_toArray, List.getElem_cons_succ, List.getElem_cons_zero, List.setIfInBounds_toArray, List.set_cons_zero, List.set_cons_succ])
  refine wpList_val (.pointer (some ⟨b4, 19, none⟩)) (by rfl) (by go_simp) ?_
  (try simp only [Act.put, List.getElem_toArray, List.getElem_cons_succ, List.getElem_cons_zero, List.setIfInBounds_toArray, List.set_cons_zero, List.set_cons_succ])
  refine wpList_val (.int .i64 4) (by rfl) (by have q : w14.cell? ⟨b4, 19, none⟩ = some (.int .i64 4) := K14.out.cell (i := 1) rfl (by rfl); go_simp) ?_
  (try simp only [Act.put, List.getElem_toArray, List.getElem_cons_succ, List.getElem_cons_zero, List.setIfInBounds_toArray, List.set_cons_zero, List.set_cons_succ])
  refine wpList_val (.bool true) (by rfl) (by go_simp) ?_
  (try simp only [Act.put, List.getElem_toArray, List.getElem_cons_succ, List.getElem_cons_zero, List.setIfInBounds_toArray, List.set_cons_zero, List.set_cons_succ])
  refine wpList_val (.bool true) (by rfl) (run_pick_yes (.tmp 36) (.tmp 39) (.const (.bool false)) _ rfl rfl rfl) ?_
  (try simp only [Act.put, List.getElem_toArray, List.getElem_cons_succ, List.getElem_cons_zero, List.setIfInBounds_toArray, List.set_cons_zero, List.set_cons_succ])
  refine wpList_val (.bool true) (by rfl) (by go_simp) ?_
  (try simp only [Act.put, List.getElem_toArray, List.getElem_cons_succ, List.getElem_cons_zero, List.setIfInBounds_toArray, List.set_cons_zero, List.set_cons_succ])
  refine wpList_val (.int .i64 3) (by rfl) (by go_simp) ?_
  (try simp only [Act.put, List.getElem_toArray, List.getElem_cons_succ, List.getElem_cons_zero, List.setIfInBounds_toArray, List.set_cons_zero, List.set_cons_succ])
  refine wpList_val (.bool true) (by rfl) (by go_simp) ?_
  (try simp only [Act.put, List.getElem_toArray, List.getElem_cons_succ, List.getElem_cons_zero, List.setIfInBounds_toArray, List.set_cons_zero, List.set_cons_succ])
  refine wpList_val (.bool true) (by rfl) (run_pick_yes (.tmp 41) (.tmp 43) (.const (.bool false)) _ rfl rfl rfl) ?_
  (try simp only [Act.put, List.getElem_toArray, List.getElem_cons_succ, List.getElem_cons_zero, List.setIfInBounds_toArray, List.set_cons_zero, List.set_cons_succ])
  refine wpList_val (.bool true) (by rfl) (by go_simp) ?_
  (try simp only [Act.put, List.getElem_toArray, List.getElem_cons_succ, List.getElem_cons_zero, List.setIfInBounds_toArray, List.set_cons_zero, List.set_cons_succ])
  refine wpList_val (.pointer (some ⟨b7, 18, none⟩)) (by rfl) (by go_simp) ?_
  (try simp only [Act.put, List.getElem_toArray, List.getElem_cons_succ, List.getElem_cons_zero, List.setIfInBounds_toArray, List.set_cons_zero, List.set_cons_succ])
  refine wpList_val (.int .i64 6) (by rfl) (by have q : w14.cell? ⟨b7, 18, none⟩ = some (.int .i64 6) := K14.out.cell (i := 2) rfl (by rfl); go_simp) ?_
  (try simp only [Act.put, List.getElem_toArray, List.getElem_cons_succ, List.getElem_cons_zero, List.setIfInBounds_toArray, List.set_cons_zero, List.set_cons_succ])
  refine wpList_val (.bool true) (by rfl) (by go_simp) ?_
  (try simp only [Act.put, List.getElem_toArray, List.getElem_cons_succ, List.getElem_cons_zero, List.setIfInBounds_toArray, List.set_cons_zero, List.set_cons_succ])
  refine wpList_val (.bool true) (by rfl) (run_pick_yes (.tmp 45) (.tmp 48) (.const (.bool false)) _ rfl rfl rfl) ?_
  (try simp only [Act.put, List.getElem_toArray, List.getElem_cons_succ, List.getElem_cons_zero, List.setIfInBounds_toArray, List.set_cons_zero, List.set_cons_succ])
  refine wpList_val (.bool true) (by rfl) (by go_simp) ?_
  (try simp only [Act.put, List.getElem_toArray, List.getElem_cons_succ, List.getElem_cons_zero, List.setIfInBounds_toArray, List.set_cons_zero, List.set_cons_succ])
  refine wpList_val (.int .i64 2) (by rfl) (by go_simp) ?_
  (try simp only [Act.put, List.getElem_toArray, List.getElem_cons_succ, List.getElem_cons_zero, List.setIfInBounds_toArray, List.set_cons_zero, List.set_cons_succ])
  refine wpList_val (.bool true) (by rfl) (by go_simp) ?_
  (try simp only [Act.put, List.getElem_toArray, List.getElem_cons_succ, List.getElem_cons_zero, List.setIfInBounds_toArray, List.set_cons_zero, List.set_cons_succ])
  refine wpList_val (.bool true) (by rfl) (run_pick_yes (.tmp 50) (.tmp 52) (.const (.bool false)) _ rfl rfl rfl) ?_
  (try simp only [Act.put, List.getElem_toArray, List.getElem_cons_succ, List.getElem_cons_zero, List.setIfInBounds_toArray, List.set_cons_zero, List.set_cons_succ])
  refine wpList_val (.bool true) (by rfl) (by go_simp) ?_
  (try simp only [Act.put, List.getElem_toArray, List.getElem_cons_succ, List.getElem_cons_zero, List.setIfInBounds_toArray, List.set_cons_zero, List.set_cons_succ])
  refine wpList_val (.int .i64 1) (by rfl) (by go_simp) ?_
  (try simp only [Act.put, List.getElem_toArray, List.getElem_cons_succ, List.getElem_cons_zero, List.setIfInBounds_toArray, List.set_cons_zero, List.set_cons_succ])
  refine wpList_val (.bool true) (by rfl) (by go_simp) ?_
  (try simp only [Act.put, List.getElem_toArray, List.getElem_cons_succ, List.getElem_cons_zero, List.setIfInBounds_toArray, List.set_cons_zero, List.set_cons_succ])
  refine wpList_val (.bool true) (by rfl) (run_pick_yes (.tmp 54) (.tmp 56) (.const (.bool false)) _ rfl rfl rfl) ?_
  (try simp only [Act.put, List.getElem_toArray, List.getElem_cons_succ, List.getElem_cons_zero, List.setIfInBounds_toArray, List.set_cons_zero, List.set_cons_succ])
  refine wpList_val (.bool true) (by rfl) (by go_simp) ?_
  (try simp only [Act.put, List.getElem_toArray, List.getElem_cons_succ, List.getElem_cons_zero, List.setIfInBounds_toArray, List.set_cons_zero, List.set_cons_succ])
  refine wpList_nil ?_
  go_wp2_with fail
  go_ret
  exact ⟨ret_bool (rfl), K14.out.below⟩
end Go.Proofs.Ytojijeaofkndpaa
