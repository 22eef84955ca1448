/- Edge, opened, rest. -/
import Derived.Test.YteeinlbhcdpnnaaSa0
namespace Go.Proofs.Yteeinlbhcdpnnaa
open Go.RowKit
attribute [local irreducible] wpQuiet wpList
set_option linter.unusedSimpArgs false
set_option linter.unusedVariables false

set_option maxRecDepth 100000 in
set_option maxHeartbeats 8000000 in
theorem edge_any (x : Po) (w : World) : Calls Try.prog 13 #[poV x] w fun e w' => e = .returned (.bool (edgeB x)) ∧ Below w.heap.size w w' := by
 cases h5 : x.p5
 case false =>
  rw [show poV x = .agg (poA ⟨x.p0, x.p1, x.p2, x.p3, x.p4, false, x.p6, x.p7, x.p8, x.p9, x.p10, x.p11, x.p12, x.p13, x.p14, x.p15, x.p16, x.p17, x.p18, x.p19, x.p20⟩) from by rw [← h5]]
  have K := Lib.hid (Kb.nil w)
  go_enter Try.func13, Try.ntmps13
  go_upto_region 0 with fail
  refine wp_region_lit ?_
  refine kb_box K.out 42 (.tmp 0) (poA ⟨x.p0, x.p1, x.p2, x.p3, x.p4, false, x.p6, x.p7, x.p8, x.p9, x.p10, x.p11, x.p12, x.p13, x.p14, x.p15, x.p16, x.p17, x.p18, x.p19, x.p20⟩) rfl rfl (by rfl) ?_
  intro b1 w1 hb1 hk
  have K1 := Lib.hid (show Kb w [(b1, poA ⟨x.p0, x.p1, x.p2, x.p3, x.p4, false, x.p6, x.p7, x.p8, x.p9, x.p10, x.p11, x.p12, x.p13, x.p14, x.p15, x.p16, x.p17, x.p18, x.p19, x.p20⟩, 42)] w1 from hk)
  clear hk hb1
  (try simp only [Act.put, gA, gS, gZ, sA, sZ, sS])
  refine wv (.bool false) ?_
  (try simp only [Act.put, gA, gS, gZ, sA, sZ, sS])
  refine wpList_nil ?_
  go_upto_region 1 with fail
  refine wp_region_lit ?_
  refine wv (.pointer (some ⟨b1, 5, none⟩)) ?_
  (try simp only [Act.put, gA, gS, gZ, sA, sZ, sS])
  refine wv (.bool false) ?_ (hrun := by have q : w1.cell? ⟨b1, 5, none⟩ = some (.bool false) := K1.out.cell (i := 0) rfl (by rfl); go_simp)
  (try simp only [Act.put, gA, gS, gZ, sA, sZ, sS])
  refine wv (.bool false) ?_
  (try simp only [Act.put, gA, gS, gZ, sA, sZ, sS])
  refine wpList_skip (by kernel_rfl) ?_
  (try simp only [Act.put, gA, gS, gZ, sA, sZ, sS])
  refine wpList_skip (by kernel_rfl) ?_
  (try simp only [Act.put, gA, gS, gZ, sA, sZ, sS])
  refine wv (.bool false) ?_ (hrun := run_pick_no (.tmp 5) (.tmp 7) (.const (.bool false)) _ rfl rfl rfl)
  (try simp only [Act.put, gA, gS, gZ, sA, sZ, sS])
  refine wv (.bool false) ?_
  (try simp only [Act.put, gA, gS, gZ, sA, sZ, sS])
  refine wpList_nil ?_
  go_wp2_with fail
  go_ret
  exact ⟨ret_bool (by simp [edgeB, h5]), K1.out.below⟩
 case true =>
  rw [show poV x = .agg (poA ⟨x.p0, x.p1, x.p2, x.p3, x.p4, true, x.p6, x.p7, x.p8, x.p9, x.p10, x.p11, x.p12, x.p13, x.p14, x.p15, x.p16, x.p17, x.p18, x.p19, x.p20⟩) from by rw [← h5]]
  have K := Lib.hid (Kb.nil w)
  go_enter Try.func13, Try.ntmps13
  go_upto_region 0 with fail
  refine wp_region_lit ?_
  refine kb_box K.out 42 (.tmp 0) (poA ⟨x.p0, x.p1, x.p2, x.p3, x.p4, true, x.p6, x.p7, x.p8, x.p9, x.p10, x.p11, x.p12, x.p13, x.p14, x.p15, x.p16, x.p17, x.p18, x.p19, x.p20⟩) rfl rfl (by rfl) ?_
  intro b1 w1 hb1 hk
  have K1 := Lib.hid (show Kb w [(b1, poA ⟨x.p0, x.p1, x.p2, x.p3, x.p4, true, x.p6, x.p7, x.p8, x.p9, x.p10, x.p11, x.p12, x.p13, x.p14, x.p15, x.p16, x.p17, x.p18, x.p19, x.p20⟩, 42)] w1 from hk)
  clear hk hb1
  (try simp only [Act.put, gA, gS, gZ, sA, sZ, sS])
  refine wv (.bool false) ?_
  (try simp only [Act.put, gA, gS, gZ, sA, sZ, sS])
  refine wpList_nil ?_
  go_upto_region 1 with fail
  refine wp_region_lit ?_
  refine wv (.pointer (some ⟨b1, 5, none⟩)) ?_
  (try simp only [Act.put, gA, gS, gZ, sA, sZ, sS])
  refine wv (.bool true) ?_ (hrun := by have q : w1.cell? ⟨b1, 5, none⟩ = some (.bool true) := K1.out.cell (i := 0) rfl (by rfl); go_simp)
  (try simp only [Act.put, gA, gS, gZ, sA, sZ, sS])
  refine wv (.bool true) ?_
  (try simp only [Act.put, gA, gS, gZ, sA, sZ, sS])
  refine wv (.pointer (some ⟨b1, 8, none⟩)) ?_
  (try simp only [Act.put, gA, gS, gZ, sA, sZ, sS])
  refine wv (.bool x.p8) ?_ (hrun := by have q : w1.cell? ⟨b1, 8, none⟩ = some (.bool x.p8) := K1.out.cell (i := 0) rfl (by rfl); go_simp)
  (try simp only [Act.put, gA, gS, gZ, sA, sZ, sS])
  refine wv (.bool x.p8) ?_ (hrun := run_pick_yes (.tmp 5) (.tmp 7) (.const (.bool false)) _ rfl rfl rfl)
  (try simp only [Act.put, gA, gS, gZ, sA, sZ, sS])
  refine wv (.bool x.p8) ?_
  (try simp only [Act.put, gA, gS, gZ, sA, sZ, sS])
  refine wpList_nil ?_
  go_wp2_with fail
  go_ret
  exact ⟨ret_bool (by simp [edgeB, h5]), K1.out.below⟩
set_option maxRecDepth 100000 in
set_option maxHeartbeats 8000000 in
theorem opened_any (x y : Po) (w : World) : Calls Try.prog 16 #[poV x, poV y] w fun e w' => e = .returned (.bool (openedB x y)) ∧ Below w.heap.size w w' := by
 by_cases h1 : y.p11 = 2
 case neg =>
  have K := Lib.hid (Kb.nil w)
  go_enter Try.func16, Try.ntmps16
  go_upto_region 0 with fail
  refine wp_region_lit ?_
  refine kb_box K.out 42 (.tmp 0) (poA ⟨x.p0, x.p1, x.p2, x.p3, x.p4, x.p5, x.p6, x.p7, x.p8, x.p9, x.p10, x.p11, x.p12, x.p13, x.p14, x.p15, x.p16, x.p17, x.p18, x.p19, x.p20⟩) rfl rfl (by rfl) ?_
  intro b1 w1 hb1 hk
  have K1 := Lib.hid (show Kb w [(b1, poA ⟨x.p0, x.p1, x.p2, x.p3, x.p4, x.p5, x.p6, x.p7, x.p8, x.p9, x.p10, x.p11, x.p12, x.p13, x.p14, x.p15, x.p16, x.p17, x.p18, x.p19, x.p20⟩, 42)] w1 from hk)
  clear hk hb1
  (try simp only [Act.put, gA, gS, gZ, sA, sZ, sS])
  refine kb_box K1.out 42 (.tmp 1) (poA ⟨y.p0, y.p1, y.p2, y.p3, y.p4, y.p5, y.p6, y.p7, y.p8, y.p9, y.p10, y.p11, y.p12, y.p13, y.p14, y.p15, y.p16, y.p17, y.p18, y.p19, y.p20⟩) rfl rfl (by rfl) ?_
  intro b2 w2 hb2 hk
  have K2 := Lib.hid (show Kb w [(b1, poA ⟨x.p0, x.p1, x.p2, x.p3, x.p4, x.p5, x.p6, x.p7, x.p8, x.p9, x.p10, x.p11, x.p12, x.p13, x.p14, x.p15, x.p16, x.p17, x.p18, x.p19, x.p20⟩, 42), (b2, poA ⟨y.p0, y.p1, y.p2, y.p3, y.p4, y.p5, y.p6, y.p7, y.p8, y.p9, y.p10, y.p11, y.p12, y.p13, y.p14, y.p15, y.p16, y.p17, y.p18, y.p19, y.p20⟩, 42)] w2 from hk)
  clear hk hb2
  (try simp only [Act.put, gA, gS, gZ, sA, sZ, sS])
  refine wv (.bool false) ?_
  (try simp only [Act.put, gA, gS, gZ, sA, sZ, sS])
  refine wpList_nil ?_
  go_upto_region 1 with fail
  refine wp_region_lit ?_
  refine wv (.pointer (some ⟨b2, 11, none⟩)) ?_
  (try simp only [Act.put, gA, gS, gZ, sA, sZ, sS])
  refine wv (.int .i64 y.p11) ?_ (hrun := by have q : w2.cell? ⟨b2, 11, none⟩ = some (.int .i64 y.p11) := K2.out.cell (i := 1) rfl (by rfl); go_simp)
  (try simp only [Act.put, gA, gS, gZ, sA, sZ, sS])
  refine wv (.bool false) ?_ (hrun := by have q := h1; go_simp)
  (try simp only [Act.put, gA, gS, gZ, sA, sZ, sS])
  refine wv (.bool false) ?_
  (try simp only [Act.put, gA, gS, gZ, sA, sZ, sS])
  refine wpList_skip (by kernel_rfl) ?_
  (try simp only [Act.put, gA, gS, gZ, sA, sZ, sS])
  refine wpList_skip (by kernel_rfl) ?_
  (try simp only [Act.put, gA, gS, gZ, sA, sZ, sS])
  refine wpList_skip (by kernel_rfl) ?_
  (try simp only [Act.put, gA, gS, gZ, sA, sZ, sS])
  refine wv (.bool false) ?_ (hrun := run_pick_no (.tmp 8) (.tmp 11) (.const (.bool false)) _ rfl rfl rfl)
  (try simp only [Act.put, gA, gS, gZ, sA, sZ, sS])
  refine wv (.bool false) ?_
  (try simp only [Act.put, gA, gS, gZ, sA, sZ, sS])
  refine wpList_nil ?_
  go_wp2_with fail
  go_ret
  exact ⟨ret_bool (by simp [openedB, h1]), K2.out.below⟩
 case pos =>
  by_cases h2 : x.p11 = 2
  case pos =>
   have K := Lib.hid (Kb.nil w)
   go_enter Try.func16, Try.ntmps16
   go_upto_region 0 with fail
   refine wp_region_lit ?_
   refine kb_box K.out 42 (.tmp 0) (poA ⟨x.p0, x.p1, x.p2, x.p3, x.p4, x.p5, x.p6, x.p7, x.p8, x.p9, x.p10, x.p11, x.p12, x.p13, x.p14, x.p15, x.p16, x.p17, x.p18, x.p19, x.p20⟩) rfl rfl (by rfl) ?_
   intro b1 w1 hb1 hk
   have K1 := Lib.hid (show Kb w [(b1, poA ⟨x.p0, x.p1, x.p2, x.p3, x.p4, x.p5, x.p6, x.p7, x.p8, x.p9, x.p10, x.p11, x.p12, x.p13, x.p14, x.p15, x.p16, x.p17, x.p18, x.p19, x.p20⟩, 42)] w1 from hk)
   clear hk hb1
   (try simp only [Act.put, gA, gS, gZ, sA, sZ, sS])
   refine kb_box K1.out 42 (.tmp 1) (poA ⟨y.p0, y.p1, y.p2, y.p3, y.p4, y.p5, y.p6, y.p7, y.p8, y.p9, y.p10, y.p11, y.p12, y.p13, y.p14, y.p15, y.p16, y.p17, y.p18, y.p19, y.p20⟩) rfl rfl (by rfl) ?_
   intro b2 w2 hb2 hk
   have K2 := Lib.hid (show Kb w [(b1, poA ⟨x.p0, x.p1, x.p2, x.p3, x.p4, x.p5, x.p6, x.p7, x.p8, x.p9, x.p10, x.p11, x.p12, x.p13, x.p14, x.p15, x.p16, x.p17, x.p18, x.p19, x.p20⟩, 42), (b2, poA ⟨y.p0, y.p1, y.p2, y.p3, y.p4, y.p5, y.p6, y.p7, y.p8, y.p9, y.p10, y.p11, y.p12, y.p13, y.p14, y.p15, y.p16, y.p17, y.p18, y.p19, y.p20⟩, 42)] w2 from hk)
   clear hk hb2
   (try simp only [Act.put, gA, gS, gZ, sA, sZ, sS])
   refine wv (.bool false) ?_
   (try simp only [Act.put, gA, gS, gZ, sA, sZ, sS])
   refine wpList_nil ?_
   go_upto_region 1 with fail
   refine wp_region_lit ?_
   refine wv (.pointer (some ⟨b2, 11, none⟩)) ?_
   (try simp only [Act.put, gA, gS, gZ, sA, sZ, sS])
   refine wv (.int .i64 y.p11) ?_ (hrun := by have q : w2.cell? ⟨b2, 11, none⟩ = some (.int .i64 y.p11) := K2.out.cell (i := 1) rfl (by rfl); go_simp)
   (try simp only [Act.put, gA, gS, gZ, sA, sZ, sS])
   refine wv (.bool true) ?_ (hrun := by have q := h1; go_simp)
   (try simp only [Act.put, gA, gS, gZ, sA, sZ, sS])
   refine wv (.bool true) ?_
   (try simp only [Act.put, gA, gS, gZ, sA, sZ, sS])
   refine wv (.pointer (some ⟨b1, 11, none⟩)) ?_
   (try simp only [Act.put, gA, gS, gZ, sA, sZ, sS])
   refine wv (.int .i64 x.p11) ?_ (hrun := by have q : w2.cell? ⟨b1, 11, none⟩ = some (.int .i64 x.p11) := K2.out.cell (i := 0) rfl (by rfl); go_simp)
   (try simp only [Act.put, gA, gS, gZ, sA, sZ, sS])
   refine wv (.bool false) ?_ (hrun := by have q := h2; go_simp)
   (try simp only [Act.put, gA, gS, gZ, sA, sZ, sS])
   refine wv (.bool false) ?_ (hrun := run_pick_yes (.tmp 8) (.tmp 11) (.const (.bool false)) _ rfl rfl rfl)
   (try simp only [Act.put, gA, gS, gZ, sA, sZ, sS])
   refine wv (.bool false) ?_
   (try simp only [Act.put, gA, gS, gZ, sA, sZ, sS])
   refine wpList_nil ?_
   go_wp2_with fail
   go_ret
   exact ⟨ret_bool (by simp [openedB, h1, h2]), K2.out.below⟩
  case neg =>
   have K := Lib.hid (Kb.nil w)
   go_enter Try.func16, Try.ntmps16
   go_upto_region 0 with fail
   refine wp_region_lit ?_
   refine kb_box K.out 42 (.tmp 0) (poA ⟨x.p0, x.p1, x.p2, x.p3, x.p4, x.p5, x.p6, x.p7, x.p8, x.p9, x.p10, x.p11, x.p12, x.p13, x.p14, x.p15, x.p16, x.p17, x.p18, x.p19, x.p20⟩) rfl rfl (by rfl) ?_
   intro b1 w1 hb1 hk
   have K1 := Lib.hid (show Kb w [(b1, poA ⟨x.p0, x.p1, x.p2, x.p3, x.p4, x.p5, x.p6, x.p7, x.p8, x.p9, x.p10, x.p11, x.p12, x.p13, x.p14, x.p15, x.p16, x.p17, x.p18, x.p19, x.p20⟩, 42)] w1 from hk)
   clear hk hb1
   (try simp only [Act.put, gA, gS, gZ, sA, sZ, sS])
   refine kb_box K1.out 42 (.tmp 1) (poA ⟨y.p0, y.p1, y.p2, y.p3, y.p4, y.p5, y.p6, y.p7, y.p8, y.p9, y.p10, y.p11, y.p12, y.p13, y.p14, y.p15, y.p16, y.p17, y.p18, y.p19, y.p20⟩) rfl rfl (by rfl) ?_
   intro b2 w2 hb2 hk
   have K2 := Lib.hid (show Kb w [(b1, poA ⟨x.p0, x.p1, x.p2, x.p3, x.p4, x.p5, x.p6, x.p7, x.p8, x.p9, x.p10, x.p11, x.p12, x.p13, x.p14, x.p15, x.p16, x.p17, x.p18, x.p19, x.p20⟩, 42), (b2, poA ⟨y.p0, y.p1, y.p2, y.p3, y.p4, y.p5, y.p6, y.p7, y.p8, y.p9, y.p10, y.p11, y.p12, y.p13, y.p14, y.p15, y.p16, y.p17, y.p18, y.p19, y.p20⟩, 42)] w2 from hk)
   clear hk hb2
   (try simp only [Act.put, gA, gS, gZ, sA, sZ, sS])
   refine wv (.bool false) ?_
   (try simp only [Act.put, gA, gS, gZ, sA, sZ, sS])
   refine wpList_nil ?_
   go_upto_region 1 with fail
   refine wp_region_lit ?_
   refine wv (.pointer (some ⟨b2, 11, none⟩)) ?_
   (try simp only [Act.put, gA, gS, gZ, sA, sZ, sS])
   refine wv (.int .i64 y.p11) ?_ (hrun := by have q : w2.cell? ⟨b2, 11, none⟩ = some (.int .i64 y.p11) := K2.out.cell (i := 1) rfl (by rfl); go_simp)
   (try simp only [Act.put, gA, gS, gZ, sA, sZ, sS])
   refine wv (.bool true) ?_ (hrun := by have q := h1; go_simp)
   (try simp only [Act.put, gA, gS, gZ, sA, sZ, sS])
   refine wv (.bool true) ?_
   (try simp only [Act.put, gA, gS, gZ, sA, sZ, sS])
   refine wv (.pointer (some ⟨b1, 11, none⟩)) ?_
   (try simp only [Act.put, gA, gS, gZ, sA, sZ, sS])
   refine wv (.int .i64 x.p11) ?_ (hrun := by have q : w2.cell? ⟨b1, 11, none⟩ = some (.int .i64 x.p11) := K2.out.cell (i := 0) rfl (by rfl); go_simp)
   (try simp only [Act.put, gA, gS, gZ, sA, sZ, sS])
   refine wv (.bool true) ?_ (hrun := by have q := h2; go_simp)
   (try simp only [Act.put, gA, gS, gZ, sA, sZ, sS])
   refine wv (.bool true) ?_ (hrun := run_pick_yes (.tmp 8) (.tmp 11) (.const (.bool false)) _ rfl rfl rfl)
   (try simp only [Act.put, gA, gS, gZ, sA, sZ, sS])
   refine wv (.bool true) ?_
   (try simp only [Act.put, gA, gS, gZ, sA, sZ, sS])
   refine wpList_nil ?_
   go_wp2_with fail
   go_ret
   exact ⟨ret_bool (by simp [openedB, h1, h2]), K2.out.below⟩
set_option maxRecDepth 100000 in
set_option maxHeartbeats 8000000 in
theorem rest_any (x : Po) (s : Int) (w : World) : Calls Try.prog 14 #[poV x, .int .i64 s] w fun e w' => e = .returned (poV (restP x s)) ∧ Below w.heap.size w w' := by
 have K := Lib.hid (Kb.nil w)
 go_enter Try.func14, Try.ntmps14
 go_upto_region 0 with fail
 refine wp_region_lit ?_
 refine kb_box K.out 42 (.tmp 0) (poA ⟨x.p0, x.p1, x.p2, x.p3, x.p4, x.p5, x.p6, x.p7, x.p8, x.p9, x.p10, x.p11, x.p12, x.p13, x.p14, x.p15, x.p16, x.p17, x.p18, x.p19, x.p20⟩) rfl rfl (by rfl) ?_
 intro b1 w1 hb1 hk
 have K1 := Lib.hid (show Kb w [(b1, poA ⟨x.p0, x.p1, x.p2, x.p3, x.p4, x.p5, x.p6, x.p7, x.p8, x.p9, x.p10, x.p11, x.p12, x.p13, x.p14, x.p15, x.p16, x.p17, x.p18, x.p19, x.p20⟩, 42)] w1 from hk)
 clear hk hb1
 (try simp only [Act.put, gA, gS, gZ, sA, sZ, sS])
 refine kb_alloc K1.out 42 (nil21) rfl z50 (by rfl) ?_
 intro b2 w2 hb2 hk
 have K2 := Lib.hid (show Kb w [(b1, poA ⟨x.p0, x.p1, x.p2, x.p3, x.p4, x.p5, x.p6, x.p7, x.p8, x.p9, x.p10, x.p11, x.p12, x.p13, x.p14, x.p15, x.p16, x.p17, x.p18, x.p19, x.p20⟩, 42), (b2, nil21, 42)] w2 from hk)
 clear hk hb2
 (try simp only [Act.put, gA, gS, gZ, sA, sZ, sS])
 refine wpList_nil ?_
 go_upto_region 1 with fail
 refine wp_region_lit ?_
 refine wv (.int .i64 s) ?_
 (try simp only [Act.put, gA, gS, gZ, sA, sZ, sS])
 refine wv (.pointer (some ⟨b1, 11, none⟩)) ?_
 (try simp only [Act.put, gA, gS, gZ, sA, sZ, sS])
 refine kb_set K2.out 0 rfl 3 _ _ 11 (.int .i64 s) rfl (by rfl) rfl rfl (kb_run_set K2.out (i := 0) rfl 3 11 (.int .i64 x.p11) (.int .i64 s) (by rfl) (fun W h1 h2 => by go_simp)) (poA ⟨x.p0, x.p1, x.p2, x.p3, x.p4, x.p5, x.p6, x.p7, x.p8, x.p9, x.p10, s, x.p12, x.p13, x.p14, x.p15, x.p16, x.p17, x.p18, x.p19, x.p20⟩) (by kernel_rfl) ?_
 intro w3 hk
 have K3 := Lib.hid (show Kb w [(b1, poA ⟨x.p0, x.p1, x.p2, x.p3, x.p4, x.p5, x.p6, x.p7, x.p8, x.p9, x.p10, s, x.p12, x.p13, x.p14, x.p15, x.p16, x.p17, x.p18, x.p19, x.p20⟩, 42), (b2, nil21, 42)] w3 from hk)
 clear hk
 (try simp only [Act.put, gA, gS, gZ, sA, sZ, sS])
 refine wv (.pointer (some ⟨b1, 9, none⟩)) ?_
 (try simp only [Act.put, gA, gS, gZ, sA, sZ, sS])
 refine kb_set K3.out 0 rfl 4 _ _ 9 (.bool false) rfl (by rfl) rfl rfl (kb_run_set K3.out (i := 0) rfl 4 9 (.bool x.p9) (.bool false) (by rfl) (fun W h1 h2 => by go_simp)) (poA ⟨x.p0, x.p1, x.p2, x.p3, x.p4, x.p5, x.p6, x.p7, x.p8, false, x.p10, s, x.p12, x.p13, x.p14, x.p15, x.p16, x.p17, x.p18, x.p19, x.p20⟩) (by kernel_rfl) ?_
 intro w4 hk
 have K4 := Lib.hid (show Kb w [(b1, poA ⟨x.p0, x.p1, x.p2, x.p3, x.p4, x.p5, x.p6, x.p7, x.p8, false, x.p10, s, x.p12, x.p13, x.p14, x.p15, x.p16, x.p17, x.p18, x.p19, x.p20⟩, 42), (b2, nil21, 42)] w4 from hk)
 clear hk
 (try simp only [Act.put, gA, gS, gZ, sA, sZ, sS])
 refine wv (.pointer (some ⟨b1, 19, none⟩)) ?_
 (try simp only [Act.put, gA, gS, gZ, sA, sZ, sS])
 refine kb_set K4.out 0 rfl 3 _ _ 19 (.int .i64 0) rfl (by rfl) rfl rfl (kb_run_set K4.out (i := 0) rfl 3 19 (.int .i64 x.p19) (.int .i64 0) (by rfl) (fun W h1 h2 => by go_simp)) (poA ⟨x.p0, x.p1, x.p2, x.p3, x.p4, x.p5, x.p6, x.p7, x.p8, false, x.p10, s, x.p12, x.p13, x.p14, x.p15, x.p16, x.p17, x.p18, 0, x.p20⟩) (by kernel_rfl) ?_
 intro w5 hk
 have K5 := Lib.hid (show Kb w [(b1, poA ⟨x.p0, x.p1, x.p2, x.p3, x.p4, x.p5, x.p6, x.p7, x.p8, false, x.p10, s, x.p12, x.p13, x.p14, x.p15, x.p16, x.p17, x.p18, 0, x.p20⟩, 42), (b2, nil21, 42)] w5 from hk)
 clear hk
 (try simp only [Act.put, gA, gS, gZ, sA, sZ, sS])
 refine wpList_nil ?_
 go_upto_region 2 with fail
 refine wp_region_lit ?_
 refine wv (.agg (poA ⟨x.p0, x.p1, x.p2, x.p3, x.p4, x.p5, x.p6, x.p7, x.p8, false, x.p10, s, x.p12, x.p13, x.p14, x.p15, x.p16, x.p17, x.p18, 0, x.p20⟩)) ?_ (hrun := kb_all K5.out 0 rfl 42 _ rfl rfl Try.underlying42 rfl (size50))
 (try simp only [Act.put, gA, gS, gZ, sA, sZ, sS])
 refine kb_row K5.out 1 rfl 42 _ _ (poA ⟨x.p0, x.p1, x.p2, x.p3, x.p4, x.p5, x.p6, x.p7, x.p8, false, x.p10, s, x.p12, x.p13, x.p14, x.p15, x.p16, x.p17, x.p18, 0, x.p20⟩) rfl rfl rfl rfl (size50) (by rfl) (po_all _) ?_
 intro w6 hk
 have K6 := Lib.hid (show Kb w [(b1, poA ⟨x.p0, x.p1, x.p2, x.p3, x.p4, x.p5, x.p6, x.p7, x.p8, false, x.p10, s, x.p12, x.p13, x.p14, x.p15, x.p16, x.p17, x.p18, 0, x.p20⟩, 42), (b2, poA ⟨x.p0, x.p1, x.p2, x.p3, x.p4, x.p5, x.p6, x.p7, x.p8, false, x.p10, s, x.p12, x.p13, x.p14, x.p15, x.p16, x.p17, x.p18, 0, x.p20⟩, 42)] w6 from hk)
 clear hk
 (try simp only [Act.put, gA, gS, gZ, sA, sZ, sS])
 refine wpList_nil ?_
 go_wp2_with fail
 refine bodyPost_ret (v := .agg (poA ⟨x.p0, x.p1, x.p2, x.p3, x.p4, x.p5, x.p6, x.p7, x.p8, false, x.p10, s, x.p12, x.p13, x.p14, x.p15, x.p16, x.p17, x.p18, 0, x.p20⟩)) (results_cell_row Try.results14 _ _ b2 42 (poA ⟨x.p0, x.p1, x.p2, x.p3, x.p4, x.p5, x.p6, x.p7, x.p8, false, x.p10, s, x.p12, x.p13, x.p14, x.p15, x.p16, x.p17, x.p18, 0, x.p20⟩) (0, 0) _ rfl (K6.out.at (i := 1) rfl) Try.underlying42 rfl (po_info _)) rfl ?_
 exact ⟨rfl, K6.out.below⟩
theorem edge_is (x : Po) (b : Bool) (h : edgeB x = b) (w : World) : Calls Try.prog 13 #[poV x] w fun e w' => e = .returned (.bool b) ∧ Below w.heap.size w w' := h ▸ edge_any x w
theorem opened_is (x y : Po) (b : Bool) (h : openedB x y = b) (w : World) : Calls Try.prog 16 #[poV x, poV y] w fun e w' => e = .returned (.bool b) ∧ Below w.heap.size w w' := h ▸ opened_any x y w
theorem rest_is (x : Po) (s : Int) (q : Po) (h : restP x s = q) (w : World) : Calls Try.prog 14 #[poV x, .int .i64 s] w fun e w' => e = .returned (poV q) ∧ Below w.heap.size w w' := h ▸ rest_any x s w
end Go.Proofs.Yteeinlbhcdpnnaa
