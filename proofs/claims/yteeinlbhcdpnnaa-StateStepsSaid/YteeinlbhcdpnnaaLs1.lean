/- StateSteps. -/
import Derived.Test.YteeinlbhcdpnnaaLsp
namespace Go.Proofs.Yteeinlbhcdpnnaa
open Go.RowKit
attribute [local irreducible] wpQuiet wpList
set_option linter.unusedSimpArgs false
set_option linter.unusedVariables false

set_option maxRecDepth 100000 in
set_option maxHeartbeats 8000000 in
theorem steps_1 (y : Lq) (hy : y.ok) (dl : Int) (x : Po) (u : Vc) (hxu : madeQ y = poU x u) (hbd : -2147483648 ≤ x.p19 ∧ x.p19 ≤ 2147483647) (cnd : x.p10 = 4 ∧ x.p11 = 2) (w : World) : Calls Try.prog 4 #[.agg (lqA y), .int .i64 dl] w fun e w' => e = .returned (.bool true) ∧ Below w.heap.size w w' := by
 obtain ⟨cHR, cHS⟩ := cnd
 have HR := Lib.hid cHR
 have HS := Lib.hid cHS
 obtain ⟨k1, hk1⟩ : ∃ k1, k1 = IntKind.i64.wrap (x.p19 - 1) := ⟨_, rfl⟩
 have hk2 : k1 = x.p19 - 1 := by rw [hk1]; exact wrap_i64 (by omega) (by omega)
 have HK1 := Lib.hid hk1
 have HM := Lib.hid hxu
 have HY := Lib.hid hy
 clear hk1 hk2 hxu hy hbd cHR cHS
 have K := Lib.hid (Kb.nil w)
 go_enter Try.func4, Try.ntmps4
 go_upto_region 0 with fail
 refine wp_region_lit ?_
 refine kb_box K.out 26 (.tmp 0) (lqA y) rfl rfl (by rfl) ?_
 intro b1 w1 hb1 hk
 have K1 := Lib.hid (show Kb w [(b1, lqA y, 26)] w1 from hk)
 clear hk hb1
 (try simp only [Act.put, gA, gS, gZ, sA, sZ, sS])
 refine wv (.bool false) ?_
 (try simp only [Act.put, gA, gS, gZ, sA, sZ, sS])
 refine wpList_nil ?_
 go_upto_region 1 with fail
 refine wp_region_lit ?_
 refine kb_call K1.out 6 #[] (.bool true) (by rfl) (by go_simp) (speaks_any w1) ?_
 intro w2 hk
 have K2 := Lib.hid (show Kb w [(b1, lqA y, 26)] w2 from hk)
 clear hk
 (try simp only [Act.put, gA, gS, gZ, sA, sZ, sS])
 refine wv (.bool false) ?_
 (try simp only [Act.put, gA, gS, gZ, sA, sZ, sS])
 refine wpList_nil ?_
 go_upto_region 3 with fail
 refine wp_region_lit ?_
 refine wv (.int .i64 dl) ?_
 (try simp only [Act.put, gA, gS, gZ, sA, sZ, sS])
 refine wv (.agg (cfA ⟨0, 0, 0, dl, 0, 0⟩)) ?_ (hrun := run_build_of 38 [(3, .tmp 15)] rfl _ (cfA ⟨0, 0, 0, dl, 0, 0⟩) rfl (by kernel_rfl))
 (try simp only [Act.put, gA, gS, gZ, sA, sZ, sS])
 refine kb_alloc K2.out 38 (nil6) rfl zC (by rfl) ?_
 intro b3 w3 hb3 hk
 have K3 := Lib.hid (show Kb w [(b1, lqA y, 26), (b3, nil6, 38)] w3 from hk)
 clear hk hb3
 (try simp only [Act.put, gA, gS, gZ, sA, sZ, sS])
 refine kb_row K3.out 1 rfl 38 _ _ (cfA ⟨0, 0, 0, dl, 0, 0⟩) rfl rfl rfl rfl (size34) (by rfl) (by kernel_rfl) ?_
 intro w4 hk
 have K4 := Lib.hid (show Kb w [(b1, lqA y, 26), (b3, cfA ⟨0, 0, 0, dl, 0, 0⟩, 38)] w4 from hk)
 clear hk
 (try simp only [Act.put, gA, gS, gZ, sA, sZ, sS])
 refine wpList_nil ?_
 go_upto_region 4 with fail
 refine wp_region_lit ?_
 refine wv (.agg (lqA y)) ?_ (hrun := kb_all K4.out 0 rfl 26 _ rfl rfl Try.underlying26 rfl (sizeLq))
 (try simp only [Act.put, gA, gS, gZ, sA, sZ, sS])
 refine kb_call K4.out 8 #[.agg (lqA y)] (.agg (poA (pW x u x.p9 x.p11 x.p19))) (by rfl) (by go_simp) (made_is y HY.out (pW x u x.p9 x.p11 x.p19) HM.out w4) ?_
 intro w5 hk
 have K5 := Lib.hid (show Kb w [(b1, lqA y, 26), (b3, cfA ⟨0, 0, 0, dl, 0, 0⟩, 38)] w5 from hk)
 clear hk
 (try simp only [Act.put, gA, gS, gZ, sA, sZ, sS])
 refine kb_alloc K5.out 42 (nil21) rfl z50 (by rfl) ?_
 intro b6 w6 hb6 hk
 have K6 := Lib.hid (show Kb w [(b1, lqA y, 26), (b3, cfA ⟨0, 0, 0, dl, 0, 0⟩, 38), (b6, nil21, 42)] w6 from hk)
 clear hk hb6
 (try simp only [Act.put, gA, gS, gZ, sA, sZ, sS])
 refine kb_row K6.out 2 rfl 42 _ _ (poA (pW x u x.p9 x.p11 x.p19)) rfl rfl rfl rfl (size50) (by rfl) (po_all _) ?_
 intro w7 hk
 have K7 := Lib.hid (show Kb w [(b1, lqA y, 26), (b3, cfA ⟨0, 0, 0, dl, 0, 0⟩, 38), (b6, poA (pW x u x.p9 x.p11 x.p19), 42)] w7 from hk)
 clear hk
 (try simp only [Act.put, gA, gS, gZ, sA, sZ, sS])
 refine wpList_nil ?_
 go_upto_region 5 with fail
 rcases bool_two x.p5 with h5 | h5
 case inl =>
  have H5 := Lib.hid h5
  clear h5
  rcases bool_two x.p9 with h9 | h9
  case inl =>
   have H9 := Lib.hid h9
   clear h9
   have HED := Lib.hid (show edgeB (pW x u x.p9 x.p11 x.p19) = false from by show (x.p5 && x.p8) = _; simp [H5.out])
   refine wp_region_lit ?_
   refine wv (.pointer (some ⟨b6, 5, none⟩)) ?_
   (try simp only [Act.put, gA, gS, gZ, sA, sZ, sS])
   refine wv (.bool false) ?_ (hrun := by have q : w7.cell? ⟨b6, 5, none⟩ = some (.bool x.p5) := K7.out.cell (i := 2) rfl (by rfl); rw [H5.out] at q; go_simp)
   (try simp only [Act.put, gA, gS, gZ, sA, sZ, sS])
   refine wv (.bool false) ?_
   (try simp only [Act.put, gA, gS, gZ, sA, sZ, sS])
   refine wpList_skip (by kernel_rfl) ?_
   (try simp only [Act.put, gA, gS, gZ, sA, sZ, sS])
   refine wpList_skip (by kernel_rfl) ?_
   (try simp only [Act.put, gA, gS, gZ, sA, sZ, sS])
   refine wv (.bool false) ?_ (hrun := run_pick_no (.tmp 21) (.tmp 23) (.const (.bool false)) _ rfl rfl rfl)
   (try simp only [Act.put, gA, gS, gZ, sA, sZ, sS])
   refine wv (.bool false) ?_
   (try simp only [Act.put, gA, gS, gZ, sA, sZ, sS])
   refine wpList_nil ?_
   go_upto_region 6 with fail
   refine wp_region_lit ?_
   refine wv (.agg (poA (pW x u x.p9 x.p11 x.p19))) ?_ (hrun := kb_all K7.out 2 rfl 42 _ rfl rfl Try.underlying42 rfl (size50))
   (try simp only [Act.put, gA, gS, gZ, sA, sZ, sS])
   refine wv (.agg (cfA ⟨0, 0, 0, dl, 0, 0⟩)) ?_ (hrun := kb_all K7.out 1 rfl 38 _ rfl rfl Try.underlying38 rfl (size34))
   (try simp only [Act.put, gA, gS, gZ, sA, sZ, sS])
   refine kb_call K7.out 10 #[.agg (poA (pW x u x.p9 x.p11 x.p19)), .agg (cfA ⟨0, 0, 0, dl, 0, 0⟩)] (.tuple #[.agg (poA (pW x u x.p9 x.p11 x.p19)), .bool false]) (by rfl) (by go_simp) (step_is (pW x u x.p9 x.p11 x.p19) (pW x u x.p9 x.p11 x.p19) ⟨0, 0, 0, dl, 0, 0⟩ false (by show stepP (pW x u x.p9 x.p11 x.p19) dl = _; unfold stepP; rw [if_pos HR.out, if_pos HS.out]) (by show (decide (x.p11 = (2 : Int)) && !decide (x.p11 = 2)) = _; simp [HS.out]) w7) ?_
   intro w8 hk
   have K8 := Lib.hid (show Kb w [(b1, lqA y, 26), (b3, cfA ⟨0, 0, 0, dl, 0, 0⟩, 38), (b6, poA (pW x u x.p9 x.p11 x.p19), 42)] w8 from hk)
   clear hk
   (try simp only [Act.put, gA, gS, gZ, sA, sZ, sS])
   refine wv (.tuple #[.agg (poA (pW x u x.p9 x.p11 x.p19)), .bool false]) ?_
   (try simp only [Act.put, gA, gS, gZ, sA, sZ, sS])
   refine wv (.agg (poA (pW x u x.p9 x.p11 x.p19))) ?_
   (try simp only [Act.put, gA, gS, gZ, sA, sZ, sS])
   refine wv (.bool false) ?_
   (try simp only [Act.put, gA, gS, gZ, sA, sZ, sS])
   refine kb_alloc K8.out 42 (nil21) rfl z50 (by rfl) ?_
   intro b9 w9 hb9 hk
   have K9 := Lib.hid (show Kb w [(b1, lqA y, 26), (b3, cfA ⟨0, 0, 0, dl, 0, 0⟩, 38), (b6, poA (pW x u x.p9 x.p11 x.p19), 42), (b9, nil21, 42)] w9 from hk)
   clear hk hb9
   (try simp only [Act.put, gA, gS, gZ, sA, sZ, sS])
   refine kb_row K9.out 3 rfl 42 _ _ (poA (pW x u x.p9 x.p11 x.p19)) rfl rfl rfl rfl (size50) (by rfl) (po_all _) ?_
   intro w10 hk
   have K10 := Lib.hid (show Kb w [(b1, lqA y, 26), (b3, cfA ⟨0, 0, 0, dl, 0, 0⟩, 38), (b6, poA (pW x u x.p9 x.p11 x.p19), 42), (b9, poA (pW x u x.p9 x.p11 x.p19), 42)] w10 from hk)
   clear hk
   (try simp only [Act.put, gA, gS, gZ, sA, sZ, sS])
   refine wv (.bool false) ?_
   (try simp only [Act.put, gA, gS, gZ, sA, sZ, sS])
   refine wpList_nil ?_
   go_upto_region 7 with fail
   refine wp_region_lit ?_
   refine wv (.agg (poA (pW x u x.p9 x.p11 x.p19))) ?_ (hrun := kb_all K10.out 2 rfl 42 _ rfl rfl Try.underlying42 rfl (size50))
   (try simp only [Act.put, gA, gS, gZ, sA, sZ, sS])
   refine kb_alloc K10.out 42 (nil21) rfl z50 (by rfl) ?_
   intro b11 w11 hb11 hk
   have K11 := Lib.hid (show Kb w [(b1, lqA y, 26), (b3, cfA ⟨0, 0, 0, dl, 0, 0⟩, 38), (b6, poA (pW x u x.p9 x.p11 x.p19), 42), (b9, poA (pW x u x.p9 x.p11 x.p19), 42), (b11, nil21, 42)] w11 from hk)
   clear hk hb11
   (try simp only [Act.put, gA, gS, gZ, sA, sZ, sS])
   refine kb_row K11.out 4 rfl 42 _ _ (poA (pW x u x.p9 x.p11 x.p19)) rfl rfl rfl rfl (size50) (by rfl) (po_all _) ?_
   intro w12 hk
   have K12 := Lib.hid (show Kb w [(b1, lqA y, 26), (b3, cfA ⟨0, 0, 0, dl, 0, 0⟩, 38), (b6, poA (pW x u x.p9 x.p11 x.p19), 42), (b9, poA (pW x u x.p9 x.p11 x.p19), 42), (b11, poA (pW x u x.p9 x.p11 x.p19), 42)] w12 from hk)
   clear hk
   (try simp only [Act.put, gA, gS, gZ, sA, sZ, sS])
   refine wpList_nil ?_
   go_upto_region 8 with fail
   refine wp_region_lit ?_
   refine wv (.pointer (some ⟨b6, 10, none⟩)) ?_
   (try simp only [Act.put, gA, gS, gZ, sA, sZ, sS])
   refine wv (.int .i64 x.p10) ?_ (hrun := by have q : w12.cell? ⟨b6, 10, none⟩ = some (.int .i64 x.p10) := K12.out.cell (i := 2) rfl (by rfl); go_simp)
   (try simp only [Act.put, gA, gS, gZ, sA, sZ, sS])
   refine wv (.bool true) ?_ (hrun := by have q := HR.out; go_simp)
   (try simp only [Act.put, gA, gS, gZ, sA, sZ, sS])
   refine wv (.bool true) ?_
   (try simp only [Act.put, gA, gS, gZ, sA, sZ, sS])
   refine wv (.pointer (some ⟨b6, 11, none⟩)) ?_
   (try simp only [Act.put, gA, gS, gZ, sA, sZ, sS])
   refine wv (.int .i64 x.p11) ?_ (hrun := by have q : w12.cell? ⟨b6, 11, none⟩ = some (.int .i64 x.p11) := K12.out.cell (i := 2) rfl (by rfl); go_simp)
   (try simp only [Act.put, gA, gS, gZ, sA, sZ, sS])
   refine wv (.bool false) ?_ (hrun := by have q := HS.out; go_simp)
   (try simp only [Act.put, gA, gS, gZ, sA, sZ, sS])
   refine wv (.bool false) ?_ (hrun := run_pick_yes (.tmp 35) (.tmp 38) (.const (.bool false)) _ rfl rfl rfl)
   (try simp only [Act.put, gA, gS, gZ, sA, sZ, sS])
   refine wpList_nil ?_
   go_upto_region 14 with fail
   refine wp_region_lit ?_
   refine wv (.agg (poA (pW x u x.p9 x.p11 x.p19))) ?_ (hrun := kb_all K12.out 3 rfl 42 _ rfl rfl Try.underlying42 rfl (size50))
   (try simp only [Act.put, gA, gS, gZ, sA, sZ, sS])
   refine wv (.agg (poA (pW x u x.p9 x.p11 x.p19))) ?_ (hrun := kb_all K12.out 4 rfl 42 _ rfl rfl Try.underlying42 rfl (size50))
   (try simp only [Act.put, gA, gS, gZ, sA, sZ, sS])
   refine wv (.bool false) ?_ (hrun := by have q := eq_po (pW x u x.p9 x.p11 x.p19); go_simp)
   (try simp only [Act.put, gA, gS, gZ, sA, sZ, sS])
   refine wv (.bool false) ?_
   (try simp only [Act.put, gA, gS, gZ, sA, sZ, sS])
   refine wv (.bool false) ?_
   (try simp only [Act.put, gA, gS, gZ, sA, sZ, sS])
   refine wv (.pointer (some ⟨b11, 11, none⟩)) ?_
   (try simp only [Act.put, gA, gS, gZ, sA, sZ, sS])
   refine wv (.int .i64 x.p11) ?_ (hrun := by have q : w12.cell? ⟨b11, 11, none⟩ = some (.int .i64 x.p11) := K12.out.cell (i := 4) rfl (by rfl); go_simp)
   (try simp only [Act.put, gA, gS, gZ, sA, sZ, sS])
   refine wv (.bool true) ?_ (hrun := by have q := HS.out; go_simp)
   (try simp only [Act.put, gA, gS, gZ, sA, sZ, sS])
   refine wv (.bool true) ?_
   (try simp only [Act.put, gA, gS, gZ, sA, sZ, sS])
   refine wv (.pointer (some ⟨b6, 11, none⟩)) ?_
   (try simp only [Act.put, gA, gS, gZ, sA, sZ, sS])
   refine wv (.int .i64 x.p11) ?_ (hrun := by have q : w12.cell? ⟨b6, 11, none⟩ = some (.int .i64 x.p11) := K12.out.cell (i := 2) rfl (by rfl); go_simp)
   (try simp only [Act.put, gA, gS, gZ, sA, sZ, sS])
   refine wv (.bool false) ?_ (hrun := by have q := HS.out; go_simp)
   (try simp only [Act.put, gA, gS, gZ, sA, sZ, sS])
   refine wv (.bool false) ?_ (hrun := run_pick_yes (.tmp 65) (.tmp 68) (.const (.bool false)) _ rfl rfl rfl)
   (try simp only [Act.put, gA, gS, gZ, sA, sZ, sS])
   refine wv (.bool false) ?_
   (try simp only [Act.put, gA, gS, gZ, sA, sZ, sS])
   refine wv (.bool false) ?_ (hrun := run_pick_no (.tmp 60) (.const (.bool true)) (.tmp 70) _ rfl rfl rfl)
   (try simp only [Act.put, gA, gS, gZ, sA, sZ, sS])
   refine wpList_nil ?_
   go_upto_region 16 with fail
   refine wp_region_lit ?_
   refine wv (.agg (poA (pW x u x.p9 x.p11 x.p19))) ?_ (hrun := kb_all K12.out 2 rfl 42 _ rfl rfl Try.underlying42 rfl (size50))
   (try simp only [Act.put, gA, gS, gZ, sA, sZ, sS])
   refine kb_call K12.out 11 #[.agg (poA (pW x u x.p9 x.p11 x.p19))] (.tuple #[.agg (poA (pW x u true 2 0)), .bool false]) (by rfl) (by go_simp) (agree_is (pW x u x.p9 x.p11 x.p19) (pW x u true 2 0) false (by unfold agreeP; rw [if_pos HR.out]) (by show (decide (2 = (2 : Int)) && !decide (x.p11 = 2)) = _; simp [HS.out]) w12) ?_
   intro w13 hk
   have K13 := Lib.hid (show Kb w [(b1, lqA y, 26), (b3, cfA ⟨0, 0, 0, dl, 0, 0⟩, 38), (b6, poA (pW x u x.p9 x.p11 x.p19), 42), (b9, poA (pW x u x.p9 x.p11 x.p19), 42), (b11, poA (pW x u x.p9 x.p11 x.p19), 42)] w13 from hk)
   clear hk
   (try simp only [Act.put, gA, gS, gZ, sA, sZ, sS])
   refine wv (.tuple #[.agg (poA (pW x u true 2 0)), .bool false]) ?_
   (try simp only [Act.put, gA, gS, gZ, sA, sZ, sS])
   refine wv (.agg (poA (pW x u true 2 0))) ?_
   (try simp only [Act.put, gA, gS, gZ, sA, sZ, sS])
   refine wv (.bool false) ?_
   (try simp only [Act.put, gA, gS, gZ, sA, sZ, sS])
   refine kb_alloc K13.out 42 (nil21) rfl z50 (by rfl) ?_
   intro b14 w14 hb14 hk
   have K14 := Lib.hid (show Kb w [(b1, lqA y, 26), (b3, cfA ⟨0, 0, 0, dl, 0, 0⟩, 38), (b6, poA (pW x u x.p9 x.p11 x.p19), 42), (b9, poA (pW x u x.p9 x.p11 x.p19), 42), (b11, poA (pW x u x.p9 x.p11 x.p19), 42), (b14, nil21, 42)] w14 from hk)
   clear hk hb14
   (try simp only [Act.put, gA, gS, gZ, sA, sZ, sS])
   refine kb_row K14.out 5 rfl 42 _ _ (poA (pW x u true 2 0)) rfl rfl rfl rfl (size50) (by rfl) (po_all _) ?_
   intro w15 hk
   have K15 := Lib.hid (show Kb w [(b1, lqA y, 26), (b3, cfA ⟨0, 0, 0, dl, 0, 0⟩, 38), (b6, poA (pW x u x.p9 x.p11 x.p19), 42), (b9, poA (pW x u x.p9 x.p11 x.p19), 42), (b11, poA (pW x u x.p9 x.p11 x.p19), 42), (b14, poA (pW x u true 2 0), 42)] w15 from hk)
   clear hk
   (try simp only [Act.put, gA, gS, gZ, sA, sZ, sS])
   refine wv (.bool false) ?_
   (try simp only [Act.put, gA, gS, gZ, sA, sZ, sS])
   refine wpList_nil ?_
   go_upto_region 17 with fail
   refine wp_region_lit ?_
   refine wv (.agg (poA (pW x u x.p9 x.p11 x.p19))) ?_ (hrun := kb_all K15.out 2 rfl 42 _ rfl rfl Try.underlying42 rfl (size50))
   (try simp only [Act.put, gA, gS, gZ, sA, sZ, sS])
   refine kb_row K15.out 4 rfl 42 _ _ (poA (pW x u x.p9 x.p11 x.p19)) rfl rfl rfl rfl (size50) (by rfl) (po_all _) ?_
   intro w16 hk
   have K16 := Lib.hid (show Kb w [(b1, lqA y, 26), (b3, cfA ⟨0, 0, 0, dl, 0, 0⟩, 38), (b6, poA (pW x u x.p9 x.p11 x.p19), 42), (b9, poA (pW x u x.p9 x.p11 x.p19), 42), (b11, poA (pW x u x.p9 x.p11 x.p19), 42), (b14, poA (pW x u true 2 0), 42)] w16 from hk)
   clear hk
   (try simp only [Act.put, gA, gS, gZ, sA, sZ, sS])
   refine wpList_nil ?_
   go_upto_region 18 with fail
   refine wp_region_lit ?_
   refine wv (.pointer (some ⟨b6, 10, none⟩)) ?_
   (try simp only [Act.put, gA, gS, gZ, sA, sZ, sS])
   refine wv (.int .i64 x.p10) ?_ (hrun := by have q : w16.cell? ⟨b6, 10, none⟩ = some (.int .i64 x.p10) := K16.out.cell (i := 2) rfl (by rfl); go_simp)
   (try simp only [Act.put, gA, gS, gZ, sA, sZ, sS])
   refine wv (.bool true) ?_ (hrun := by have q := HR.out; go_simp)
   (try simp only [Act.put, gA, gS, gZ, sA, sZ, sS])
   refine wpList_nil ?_
   go_upto_region 19 with fail
   refine wp_region_lit ?_
   refine wv (.pointer (some ⟨b11, 9, none⟩)) ?_
   (try simp only [Act.put, gA, gS, gZ, sA, sZ, sS])
   refine kb_set K16.out 4 rfl 4 _ _ 9 (.bool true) rfl (by rfl) rfl rfl (kb_run_set K16.out (i := 4) rfl 4 9 (.bool x.p9) (.bool true) (by rfl) (fun W h1 h2 => by go_simp)) (poA (pW x u true x.p11 x.p19)) (by kernel_rfl) ?_
   intro w17 hk
   have K17 := Lib.hid (show Kb w [(b1, lqA y, 26), (b3, cfA ⟨0, 0, 0, dl, 0, 0⟩, 38), (b6, poA (pW x u x.p9 x.p11 x.p19), 42), (b9, poA (pW x u x.p9 x.p11 x.p19), 42), (b11, poA (pW x u true x.p11 x.p19), 42), (b14, poA (pW x u true 2 0), 42)] w17 from hk)
   clear hk
   (try simp only [Act.put, gA, gS, gZ, sA, sZ, sS])
   refine wv (.pointer (some ⟨b11, 11, none⟩)) ?_
   (try simp only [Act.put, gA, gS, gZ, sA, sZ, sS])
   refine kb_set K17.out 4 rfl 3 _ _ 11 (.int .i64 2) rfl (by rfl) rfl rfl (kb_run_set K17.out (i := 4) rfl 3 11 (.int .i64 x.p11) (.int .i64 2) (by rfl) (fun W h1 h2 => by go_simp)) (poA (pW x u true 2 x.p19)) (by kernel_rfl) ?_
   intro w18 hk
   have K18 := Lib.hid (show Kb w [(b1, lqA y, 26), (b3, cfA ⟨0, 0, 0, dl, 0, 0⟩, 38), (b6, poA (pW x u x.p9 x.p11 x.p19), 42), (b9, poA (pW x u x.p9 x.p11 x.p19), 42), (b11, poA (pW x u true 2 x.p19), 42), (b14, poA (pW x u true 2 0), 42)] w18 from hk)
   clear hk
   (try simp only [Act.put, gA, gS, gZ, sA, sZ, sS])
   refine wv (.pointer (some ⟨b11, 19, none⟩)) ?_
   (try simp only [Act.put, gA, gS, gZ, sA, sZ, sS])
   refine kb_set K18.out 4 rfl 3 _ _ 19 (.int .i64 0) rfl (by rfl) rfl rfl (kb_run_set K18.out (i := 4) rfl 3 19 (.int .i64 x.p19) (.int .i64 0) (by rfl) (fun W h1 h2 => by go_simp)) (poA (pW x u true 2 0)) (by kernel_rfl) ?_
   intro w19 hk
   have K19 := Lib.hid (show Kb w [(b1, lqA y, 26), (b3, cfA ⟨0, 0, 0, dl, 0, 0⟩, 38), (b6, poA (pW x u x.p9 x.p11 x.p19), 42), (b9, poA (pW x u x.p9 x.p11 x.p19), 42), (b11, poA (pW x u true 2 0), 42), (b14, poA (pW x u true 2 0), 42)] w19 from hk)
   clear hk
   (try simp only [Act.put, gA, gS, gZ, sA, sZ, sS])
   refine wpList_nil ?_
   go_upto_region 20 with fail
   refine wp_region_lit ?_
   refine wv (.agg (poA (pW x u true 2 0))) ?_ (hrun := kb_all K19.out 5 rfl 42 _ rfl rfl Try.underlying42 rfl (size50))
   (try simp only [Act.put, gA, gS, gZ, sA, sZ, sS])
   refine wv (.agg (poA (pW x u true 2 0))) ?_ (hrun := kb_all K19.out 4 rfl 42 _ rfl rfl Try.underlying42 rfl (size50))
   (try simp only [Act.put, gA, gS, gZ, sA, sZ, sS])
   refine wv (.bool false) ?_ (hrun := by have q := eq_po (pW x u true 2 0); go_simp)
   (try simp only [Act.put, gA, gS, gZ, sA, sZ, sS])
   refine wv (.bool false) ?_
   (try simp only [Act.put, gA, gS, gZ, sA, sZ, sS])
   refine wv (.bool false) ?_
   (try simp only [Act.put, gA, gS, gZ, sA, sZ, sS])
   refine wv (.pointer (some ⟨b11, 11, none⟩)) ?_
   (try simp only [Act.put, gA, gS, gZ, sA, sZ, sS])
   refine wv (.int .i64 2) ?_ (hrun := by have q : w19.cell? ⟨b11, 11, none⟩ = some (.int .i64 2) := K19.out.cell (i := 4) rfl (by rfl); go_simp)
   (try simp only [Act.put, gA, gS, gZ, sA, sZ, sS])
   refine wv (.bool true) ?_
   (try simp only [Act.put, gA, gS, gZ, sA, sZ, sS])
   refine wv (.bool true) ?_
   (try simp only [Act.put, gA, gS, gZ, sA, sZ, sS])
   refine wv (.pointer (some ⟨b6, 11, none⟩)) ?_
   (try simp only [Act.put, gA, gS, gZ, sA, sZ, sS])
   refine wv (.int .i64 x.p11) ?_ (hrun := by have q : w19.cell? ⟨b6, 11, none⟩ = some (.int .i64 x.p11) := K19.out.cell (i := 2) rfl (by rfl); go_simp)
   (try simp only [Act.put, gA, gS, gZ, sA, sZ, sS])
   refine wv (.bool false) ?_ (hrun := by have q := HS.out; go_simp)
   (try simp only [Act.put, gA, gS, gZ, sA, sZ, sS])
   refine wv (.bool false) ?_ (hrun := run_pick_yes (.tmp 92) (.tmp 95) (.const (.bool false)) _ rfl rfl rfl)
   (try simp only [Act.put, gA, gS, gZ, sA, sZ, sS])
   refine wv (.bool false) ?_
   (try simp only [Act.put, gA, gS, gZ, sA, sZ, sS])
   refine wv (.bool false) ?_ (hrun := run_pick_no (.tmp 87) (.const (.bool true)) (.tmp 97) _ rfl rfl rfl)
   (try simp only [Act.put, gA, gS, gZ, sA, sZ, sS])
   refine wpList_nil ?_
   go_upto_region 22 with fail
   refine wp_region_lit ?_
   refine wv (.agg (poA (pW x u x.p9 x.p11 x.p19))) ?_ (hrun := kb_all K19.out 2 rfl 42 _ rfl rfl Try.underlying42 rfl (size50))
   (try simp only [Act.put, gA, gS, gZ, sA, sZ, sS])
   refine wv (.agg (cfA ⟨0, 0, 0, dl, 0, 0⟩)) ?_ (hrun := kb_all K19.out 1 rfl 38 _ rfl rfl Try.underlying38 rfl (size34))
   (try simp only [Act.put, gA, gS, gZ, sA, sZ, sS])
   refine kb_call K19.out 12 #[.agg (poA (pW x u x.p9 x.p11 x.p19)), .agg (cfA ⟨0, 0, 0, dl, 0, 0⟩)] (.agg (poA (pW x u x.p9 0 dl))) (by rfl) (by go_simp) (block_is (pW x u x.p9 x.p11 x.p19) (pW x u x.p9 0 dl) ⟨0, 0, 0, dl, 0, 0⟩ (by unfold blockP; rw [if_pos ⟨HR.out, HED.out, H9.out, (show ¬ x.p11 = 0 by have := HS.out; omega)⟩]) w19) ?_
   intro w20 hk
   have K20 := Lib.hid (show Kb w [(b1, lqA y, 26), (b3, cfA ⟨0, 0, 0, dl, 0, 0⟩, 38), (b6, poA (pW x u x.p9 x.p11 x.p19), 42), (b9, poA (pW x u x.p9 x.p11 x.p19), 42), (b11, poA (pW x u true 2 0), 42), (b14, poA (pW x u true 2 0), 42)] w20 from hk)
   clear hk
   (try simp only [Act.put, gA, gS, gZ, sA, sZ, sS])
   refine kb_alloc K20.out 42 (nil21) rfl z50 (by rfl) ?_
   intro b21 w21 hb21 hk
   have K21 := Lib.hid (show Kb w [(b1, lqA y, 26), (b3, cfA ⟨0, 0, 0, dl, 0, 0⟩, 38), (b6, poA (pW x u x.p9 x.p11 x.p19), 42), (b9, poA (pW x u x.p9 x.p11 x.p19), 42), (b11, poA (pW x u true 2 0), 42), (b14, poA (pW x u true 2 0), 42), (b21, nil21, 42)] w21 from hk)
   clear hk hb21
   (try simp only [Act.put, gA, gS, gZ, sA, sZ, sS])
   refine kb_row K21.out 6 rfl 42 _ _ (poA (pW x u x.p9 0 dl)) rfl rfl rfl rfl (size50) (by rfl) (po_all _) ?_
   intro w22 hk
   have K22 := Lib.hid (show Kb w [(b1, lqA y, 26), (b3, cfA ⟨0, 0, 0, dl, 0, 0⟩, 38), (b6, poA (pW x u x.p9 x.p11 x.p19), 42), (b9, poA (pW x u x.p9 x.p11 x.p19), 42), (b11, poA (pW x u true 2 0), 42), (b14, poA (pW x u true 2 0), 42), (b21, poA (pW x u x.p9 0 dl), 42)] w22 from hk)
   clear hk
   (try simp only [Act.put, gA, gS, gZ, sA, sZ, sS])
   refine wpList_nil ?_
   go_upto_region 23 with fail
   refine wp_region_lit ?_
   refine wv (.agg (poA (pW x u x.p9 x.p11 x.p19))) ?_ (hrun := kb_all K22.out 2 rfl 42 _ rfl rfl Try.underlying42 rfl (size50))
   (try simp only [Act.put, gA, gS, gZ, sA, sZ, sS])
   refine kb_row K22.out 4 rfl 42 _ _ (poA (pW x u x.p9 x.p11 x.p19)) rfl rfl rfl rfl (size50) (by rfl) (po_all _) ?_
   intro w23 hk
   have K23 := Lib.hid (show Kb w [(b1, lqA y, 26), (b3, cfA ⟨0, 0, 0, dl, 0, 0⟩, 38), (b6, poA (pW x u x.p9 x.p11 x.p19), 42), (b9, poA (pW x u x.p9 x.p11 x.p19), 42), (b11, poA (pW x u x.p9 x.p11 x.p19), 42), (b14, poA (pW x u true 2 0), 42), (b21, poA (pW x u x.p9 0 dl), 42)] w23 from hk)
   clear hk
   (try simp only [Act.put, gA, gS, gZ, sA, sZ, sS])
   refine wpList_nil ?_
   go_upto_region 24 with fail
   refine wp_region_lit ?_
   refine wv (.pointer (some ⟨b6, 10, none⟩)) ?_
   (try simp only [Act.put, gA, gS, gZ, sA, sZ, sS])
   refine wv (.int .i64 x.p10) ?_ (hrun := by have q : w23.cell? ⟨b6, 10, none⟩ = some (.int .i64 x.p10) := K23.out.cell (i := 2) rfl (by rfl); go_simp)
   (try simp only [Act.put, gA, gS, gZ, sA, sZ, sS])
   refine wv (.bool true) ?_ (hrun := by have q := HR.out; go_simp)
   (try simp only [Act.put, gA, gS, gZ, sA, sZ, sS])
   refine wv (.bool true) ?_
   (try simp only [Act.put, gA, gS, gZ, sA, sZ, sS])
   refine wv (.bool false) ?_
   (try simp only [Act.put, gA, gS, gZ, sA, sZ, sS])
   refine wv (.bool true) ?_
   (try simp only [Act.put, gA, gS, gZ, sA, sZ, sS])
   refine wv (.bool true) ?_ (hrun := run_pick_yes (.tmp 106) (.tmp 108) (.const (.bool false)) _ rfl rfl rfl)
   (try simp only [Act.put, gA, gS, gZ, sA, sZ, sS])
   refine wv (.bool true) ?_
   (try simp only [Act.put, gA, gS, gZ, sA, sZ, sS])
   refine wv (.pointer (some ⟨b6, 9, none⟩)) ?_
   (try simp only [Act.put, gA, gS, gZ, sA, sZ, sS])
   refine wv (.bool false) ?_ (hrun := by have q : w23.cell? ⟨b6, 9, none⟩ = some (.bool x.p9) := K23.out.cell (i := 2) rfl (by rfl); rw [H9.out] at q; go_simp)
   (try simp only [Act.put, gA, gS, gZ, sA, sZ, sS])
   refine wv (.bool true) ?_
   (try simp only [Act.put, gA, gS, gZ, sA, sZ, sS])
   refine wv (.bool true) ?_ (hrun := run_pick_yes (.tmp 110) (.tmp 113) (.const (.bool false)) _ rfl rfl rfl)
   (try simp only [Act.put, gA, gS, gZ, sA, sZ, sS])
   refine wv (.bool true) ?_
   (try simp only [Act.put, gA, gS, gZ, sA, sZ, sS])
   refine wv (.pointer (some ⟨b6, 11, none⟩)) ?_
   (try simp only [Act.put, gA, gS, gZ, sA, sZ, sS])
   refine wv (.int .i64 x.p11) ?_ (hrun := by have q : w23.cell? ⟨b6, 11, none⟩ = some (.int .i64 x.p11) := K23.out.cell (i := 2) rfl (by rfl); go_simp)
   (try simp only [Act.put, gA, gS, gZ, sA, sZ, sS])
   refine wv (.bool true) ?_ (hrun := by have q : ¬ x.p11 = 0 := (show ¬ x.p11 = 0 by have := HS.out; omega); go_simp)
   (try simp only [Act.put, gA, gS, gZ, sA, sZ, sS])
   refine wv (.bool true) ?_ (hrun := run_pick_yes (.tmp 115) (.tmp 118) (.const (.bool false)) _ rfl rfl rfl)
   (try simp only [Act.put, gA, gS, gZ, sA, sZ, sS])
   refine wpList_nil ?_
   go_upto_region 25 with fail
   refine wp_region_lit ?_
   refine wv (.int .i64 dl) ?_
   (try simp only [Act.put, gA, gS, gZ, sA, sZ, sS])
   refine wv (.pointer (some ⟨b11, 11, none⟩)) ?_
   (try simp only [Act.put, gA, gS, gZ, sA, sZ, sS])
   refine kb_set K23.out 4 rfl 3 _ _ 11 (.int .i64 0) rfl (by rfl) rfl rfl (kb_run_set K23.out (i := 4) rfl 3 11 (.int .i64 x.p11) (.int .i64 0) (by rfl) (fun W h1 h2 => by go_simp)) (poA (pW x u x.p9 0 x.p19)) (by kernel_rfl) ?_
   intro w24 hk
   have K24 := Lib.hid (show Kb w [(b1, lqA y, 26), (b3, cfA ⟨0, 0, 0, dl, 0, 0⟩, 38), (b6, poA (pW x u x.p9 x.p11 x.p19), 42), (b9, poA (pW x u x.p9 x.p11 x.p19), 42), (b11, poA (pW x u x.p9 0 x.p19), 42), (b14, poA (pW x u true 2 0), 42), (b21, poA (pW x u x.p9 0 dl), 42)] w24 from hk)
   clear hk
   (try simp only [Act.put, gA, gS, gZ, sA, sZ, sS])
   refine wv (.pointer (some ⟨b11, 19, none⟩)) ?_
   (try simp only [Act.put, gA, gS, gZ, sA, sZ, sS])
   refine kb_set K24.out 4 rfl 3 _ _ 19 (.int .i64 dl) rfl (by rfl) rfl rfl (kb_run_set K24.out (i := 4) rfl 3 19 (.int .i64 x.p19) (.int .i64 dl) (by rfl) (fun W h1 h2 => by go_simp)) (poA (pW x u x.p9 0 dl)) (by kernel_rfl) ?_
   intro w25 hk
   have K25 := Lib.hid (show Kb w [(b1, lqA y, 26), (b3, cfA ⟨0, 0, 0, dl, 0, 0⟩, 38), (b6, poA (pW x u x.p9 x.p11 x.p19), 42), (b9, poA (pW x u x.p9 x.p11 x.p19), 42), (b11, poA (pW x u x.p9 0 dl), 42), (b14, poA (pW x u true 2 0), 42), (b21, poA (pW x u x.p9 0 dl), 42)] w25 from hk)
   clear hk
   (try simp only [Act.put, gA, gS, gZ, sA, sZ, sS])
   refine wpList_nil ?_
   go_upto_region 26 with fail
   refine wp_region_lit ?_
   refine wv (.agg (poA (pW x u x.p9 0 dl))) ?_ (hrun := kb_all K25.out 6 rfl 42 _ rfl rfl Try.underlying42 rfl (size50))
   (try simp only [Act.put, gA, gS, gZ, sA, sZ, sS])
   refine wv (.agg (poA (pW x u x.p9 0 dl))) ?_ (hrun := kb_all K25.out 4 rfl 42 _ rfl rfl Try.underlying42 rfl (size50))
   (try simp only [Act.put, gA, gS, gZ, sA, sZ, sS])
   refine wv (.bool true) ?_ (hrun := by have q := eq_po (pW x u x.p9 0 dl); go_simp)
   (try simp only [Act.put, gA, gS, gZ, sA, sZ, sS])
   refine wv (.bool true) ?_
   (try simp only [Act.put, gA, gS, gZ, sA, sZ, sS])
   refine wv (.agg (poA (pW x u x.p9 x.p11 x.p19))) ?_ (hrun := kb_all K25.out 2 rfl 42 _ rfl rfl Try.underlying42 rfl (size50))
   (try simp only [Act.put, gA, gS, gZ, sA, sZ, sS])
   refine kb_call K25.out 13 #[.agg (poA (pW x u x.p9 x.p11 x.p19))] (.bool false) (by rfl) (by go_simp) (edge_is (pW x u x.p9 x.p11 x.p19) false HED.out w25) ?_
   intro w26 hk
   have K26 := Lib.hid (show Kb w [(b1, lqA y, 26), (b3, cfA ⟨0, 0, 0, dl, 0, 0⟩, 38), (b6, poA (pW x u x.p9 x.p11 x.p19), 42), (b9, poA (pW x u x.p9 x.p11 x.p19), 42), (b11, poA (pW x u x.p9 0 dl), 42), (b14, poA (pW x u true 2 0), 42), (b21, poA (pW x u x.p9 0 dl), 42)] w26 from hk)
   clear hk
   (try simp only [Act.put, gA, gS, gZ, sA, sZ, sS])
   refine wv (.bool false) ?_
   (try simp only [Act.put, gA, gS, gZ, sA, sZ, sS])
   refine wv (.bool true) ?_
   (try simp only [Act.put, gA, gS, gZ, sA, sZ, sS])
   refine wv (.bool true) ?_ (hrun := run_pick_yes (.tmp 126) (.tmp 130) (.const (.bool false)) _ rfl rfl rfl)
   (try simp only [Act.put, gA, gS, gZ, sA, sZ, sS])
   refine wv (.bool true) ?_
   (try simp only [Act.put, gA, gS, gZ, sA, sZ, sS])
   refine wpList_nil ?_
   go_wp2_with fail
   go_ret
   exact ⟨ret_bool (rfl), K26.out.below⟩
  case inr =>
   have H9 := Lib.hid h9
   clear h9
   have HED := Lib.hid (show edgeB (pW x u x.p9 x.p11 x.p19) = false from by show (x.p5 && x.p8) = _; simp [H5.out])
   refine wp_region_lit ?_
   refine wv (.pointer (some ⟨b6, 5, none⟩)) ?_
   (try simp only [Act.put, gA, gS, gZ, sA, sZ, sS])
   refine wv (.bool false) ?_ (hrun := by have q : w7.cell? ⟨b6, 5, none⟩ = some (.bool x.p5) := K7.out.cell (i := 2) rfl (by rfl); rw [H5.out] at q; go_simp)
   (try simp only [Act.put, gA, gS, gZ, sA, sZ, sS])
   refine wv (.bool false) ?_
   (try simp only [Act.put, gA, gS, gZ, sA, sZ, sS])
   refine wpList_skip (by kernel_rfl) ?_
   (try simp only [Act.put, gA, gS, gZ, sA, sZ, sS])
   refine wpList_skip (by kernel_rfl) ?_
   (try simp only [Act.put, gA, gS, gZ, sA, sZ, sS])
   refine wv (.bool false) ?_ (hrun := run_pick_no (.tmp 21) (.tmp 23) (.const (.bool false)) _ rfl rfl rfl)
   (try simp only [Act.put, gA, gS, gZ, sA, sZ, sS])
   refine wv (.bool false) ?_
   (try simp only [Act.put, gA, gS, gZ, sA, sZ, sS])
   refine wpList_nil ?_
   go_upto_region 6 with fail
   refine wp_region_lit ?_
   refine wv (.agg (poA (pW x u x.p9 x.p11 x.p19))) ?_ (hrun := kb_all K7.out 2 rfl 42 _ rfl rfl Try.underlying42 rfl (size50))
   (try simp only [Act.put, gA, gS, gZ, sA, sZ, sS])
   refine wv (.agg (cfA ⟨0, 0, 0, dl, 0, 0⟩)) ?_ (hrun := kb_all K7.out 1 rfl 38 _ rfl rfl Try.underlying38 rfl (size34))
   (try simp only [Act.put, gA, gS, gZ, sA, sZ, sS])
   refine kb_call K7.out 10 #[.agg (poA (pW x u x.p9 x.p11 x.p19)), .agg (cfA ⟨0, 0, 0, dl, 0, 0⟩)] (.tuple #[.agg (poA (pW x u x.p9 x.p11 x.p19)), .bool false]) (by rfl) (by go_simp) (step_is (pW x u x.p9 x.p11 x.p19) (pW x u x.p9 x.p11 x.p19) ⟨0, 0, 0, dl, 0, 0⟩ false (by show stepP (pW x u x.p9 x.p11 x.p19) dl = _; unfold stepP; rw [if_pos HR.out, if_pos HS.out]) (by show (decide (x.p11 = (2 : Int)) && !decide (x.p11 = 2)) = _; simp [HS.out]) w7) ?_
   intro w8 hk
   have K8 := Lib.hid (show Kb w [(b1, lqA y, 26), (b3, cfA ⟨0, 0, 0, dl, 0, 0⟩, 38), (b6, poA (pW x u x.p9 x.p11 x.p19), 42)] w8 from hk)
   clear hk
   (try simp only [Act.put, gA, gS, gZ, sA, sZ, sS])
   refine wv (.tuple #[.agg (poA (pW x u x.p9 x.p11 x.p19)), .bool false]) ?_
   (try simp only [Act.put, gA, gS, gZ, sA, sZ, sS])
   refine wv (.agg (poA (pW x u x.p9 x.p11 x.p19))) ?_
   (try simp only [Act.put, gA, gS, gZ, sA, sZ, sS])
   refine wv (.bool false) ?_
   (try simp only [Act.put, gA, gS, gZ, sA, sZ, sS])
   refine kb_alloc K8.out 42 (nil21) rfl z50 (by rfl) ?_
   intro b9 w9 hb9 hk
   have K9 := Lib.hid (show Kb w [(b1, lqA y, 26), (b3, cfA ⟨0, 0, 0, dl, 0, 0⟩, 38), (b6, poA (pW x u x.p9 x.p11 x.p19), 42), (b9, nil21, 42)] w9 from hk)
   clear hk hb9
   (try simp only [Act.put, gA, gS, gZ, sA, sZ, sS])
   refine kb_row K9.out 3 rfl 42 _ _ (poA (pW x u x.p9 x.p11 x.p19)) rfl rfl rfl rfl (size50) (by rfl) (po_all _) ?_
   intro w10 hk
   have K10 := Lib.hid (show Kb w [(b1, lqA y, 26), (b3, cfA ⟨0, 0, 0, dl, 0, 0⟩, 38), (b6, poA (pW x u x.p9 x.p11 x.p19), 42), (b9, poA (pW x u x.p9 x.p11 x.p19), 42)] w10 from hk)
   clear hk
   (try simp only [Act.put, gA, gS, gZ, sA, sZ, sS])
   refine wv (.bool false) ?_
   (try simp only [Act.put, gA, gS, gZ, sA, sZ, sS])
   refine wpList_nil ?_
   go_upto_region 7 with fail
   refine wp_region_lit ?_
   refine wv (.agg (poA (pW x u x.p9 x.p11 x.p19))) ?_ (hrun := kb_all K10.out 2 rfl 42 _ rfl rfl Try.underlying42 rfl (size50))
   (try simp only [Act.put, gA, gS, gZ, sA, sZ, sS])
   refine kb_alloc K10.out 42 (nil21) rfl z50 (by rfl) ?_
   intro b11 w11 hb11 hk
   have K11 := Lib.hid (show Kb w [(b1, lqA y, 26), (b3, cfA ⟨0, 0, 0, dl, 0, 0⟩, 38), (b6, poA (pW x u x.p9 x.p11 x.p19), 42), (b9, poA (pW x u x.p9 x.p11 x.p19), 42), (b11, nil21, 42)] w11 from hk)
   clear hk hb11
   (try simp only [Act.put, gA, gS, gZ, sA, sZ, sS])
   refine kb_row K11.out 4 rfl 42 _ _ (poA (pW x u x.p9 x.p11 x.p19)) rfl rfl rfl rfl (size50) (by rfl) (po_all _) ?_
   intro w12 hk
   have K12 := Lib.hid (show Kb w [(b1, lqA y, 26), (b3, cfA ⟨0, 0, 0, dl, 0, 0⟩, 38), (b6, poA (pW x u x.p9 x.p11 x.p19), 42), (b9, poA (pW x u x.p9 x.p11 x.p19), 42), (b11, poA (pW x u x.p9 x.p11 x.p19), 42)] w12 from hk)
   clear hk
   (try simp only [Act.put, gA, gS, gZ, sA, sZ, sS])
   refine wpList_nil ?_
   go_upto_region 8 with fail
   refine wp_region_lit ?_
   refine wv (.pointer (some ⟨b6, 10, none⟩)) ?_
   (try simp only [Act.put, gA, gS, gZ, sA, sZ, sS])
   refine wv (.int .i64 x.p10) ?_ (hrun := by have q : w12.cell? ⟨b6, 10, none⟩ = some (.int .i64 x.p10) := K12.out.cell (i := 2) rfl (by rfl); go_simp)
   (try simp only [Act.put, gA, gS, gZ, sA, sZ, sS])
   refine wv (.bool true) ?_ (hrun := by have q := HR.out; go_simp)
   (try simp only [Act.put, gA, gS, gZ, sA, sZ, sS])
   refine wv (.bool true) ?_
   (try simp only [Act.put, gA, gS, gZ, sA, sZ, sS])
   refine wv (.pointer (some ⟨b6, 11, none⟩)) ?_
   (try simp only [Act.put, gA, gS, gZ, sA, sZ, sS])
   refine wv (.int .i64 x.p11) ?_ (hrun := by have q : w12.cell? ⟨b6, 11, none⟩ = some (.int .i64 x.p11) := K12.out.cell (i := 2) rfl (by rfl); go_simp)
   (try simp only [Act.put, gA, gS, gZ, sA, sZ, sS])
   refine wv (.bool false) ?_ (hrun := by have q := HS.out; go_simp)
   (try simp only [Act.put, gA, gS, gZ, sA, sZ, sS])
   refine wv (.bool false) ?_ (hrun := run_pick_yes (.tmp 35) (.tmp 38) (.const (.bool false)) _ rfl rfl rfl)
   (try simp only [Act.put, gA, gS, gZ, sA, sZ, sS])
   refine wpList_nil ?_
   go_upto_region 14 with fail
   refine wp_region_lit ?_
   refine wv (.agg (poA (pW x u x.p9 x.p11 x.p19))) ?_ (hrun := kb_all K12.out 3 rfl 42 _ rfl rfl Try.underlying42 rfl (size50))
   (try simp only [Act.put, gA, gS, gZ, sA, sZ, sS])
   refine wv (.agg (poA (pW x u x.p9 x.p11 x.p19))) ?_ (hrun := kb_all K12.out 4 rfl 42 _ rfl rfl Try.underlying42 rfl (size50))
   (try simp only [Act.put, gA, gS, gZ, sA, sZ, sS])
   refine wv (.bool false) ?_ (hrun := by have q := eq_po (pW x u x.p9 x.p11 x.p19); go_simp)
   (try simp only [Act.put, gA, gS, gZ, sA, sZ, sS])
   refine wv (.bool false) ?_
   (try simp only [Act.put, gA, gS, gZ, sA, sZ, sS])
   refine wv (.bool false) ?_
   (try simp only [Act.put, gA, gS, gZ, sA, sZ, sS])
   refine wv (.pointer (some ⟨b11, 11, none⟩)) ?_
   (try simp only [Act.put, gA, gS, gZ, sA, sZ, sS])
   refine wv (.int .i64 x.p11) ?_ (hrun := by have q : w12.cell? ⟨b11, 11, none⟩ = some (.int .i64 x.p11) := K12.out.cell (i := 4) rfl (by rfl); go_simp)
   (try simp only [Act.put, gA, gS, gZ, sA, sZ, sS])
   refine wv (.bool true) ?_ (hrun := by have q := HS.out; go_simp)
   (try simp only [Act.put, gA, gS, gZ, sA, sZ, sS])
   refine wv (.bool true) ?_
   (try simp only [Act.put, gA, gS, gZ, sA, sZ, sS])
   refine wv (.pointer (some ⟨b6, 11, none⟩)) ?_
   (try simp only [Act.put, gA, gS, gZ, sA, sZ, sS])
   refine wv (.int .i64 x.p11) ?_ (hrun := by have q : w12.cell? ⟨b6, 11, none⟩ = some (.int .i64 x.p11) := K12.out.cell (i := 2) rfl (by rfl); go_simp)
   (try simp only [Act.put, gA, gS, gZ, sA, sZ, sS])
   refine wv (.bool false) ?_ (hrun := by have q := HS.out; go_simp)
   (try simp only [Act.put, gA, gS, gZ, sA, sZ, sS])
   refine wv (.bool false) ?_ (hrun := run_pick_yes (.tmp 65) (.tmp 68) (.const (.bool false)) _ rfl rfl rfl)
   (try simp only [Act.put, gA, gS, gZ, sA, sZ, sS])
   refine wv (.bool false) ?_
   (try simp only [Act.put, gA, gS, gZ, sA, sZ, sS])
   refine wv (.bool false) ?_ (hrun := run_pick_no (.tmp 60) (.const (.bool true)) (.tmp 70) _ rfl rfl rfl)
   (try simp only [Act.put, gA, gS, gZ, sA, sZ, sS])
   refine wpList_nil ?_
   go_upto_region 16 with fail
   refine wp_region_lit ?_
   refine wv (.agg (poA (pW x u x.p9 x.p11 x.p19))) ?_ (hrun := kb_all K12.out 2 rfl 42 _ rfl rfl Try.underlying42 rfl (size50))
   (try simp only [Act.put, gA, gS, gZ, sA, sZ, sS])
   refine kb_call K12.out 11 #[.agg (poA (pW x u x.p9 x.p11 x.p19))] (.tuple #[.agg (poA (pW x u true 2 0)), .bool false]) (by rfl) (by go_simp) (agree_is (pW x u x.p9 x.p11 x.p19) (pW x u true 2 0) false (by unfold agreeP; rw [if_pos HR.out]) (by show (decide (2 = (2 : Int)) && !decide (x.p11 = 2)) = _; simp [HS.out]) w12) ?_
   intro w13 hk
   have K13 := Lib.hid (show Kb w [(b1, lqA y, 26), (b3, cfA ⟨0, 0, 0, dl, 0, 0⟩, 38), (b6, poA (pW x u x.p9 x.p11 x.p19), 42), (b9, poA (pW x u x.p9 x.p11 x.p19), 42), (b11, poA (pW x u x.p9 x.p11 x.p19), 42)] w13 from hk)
   clear hk
   (try simp only [Act.put, gA, gS, gZ, sA, sZ, sS])
   refine wv (.tuple #[.agg (poA (pW x u true 2 0)), .bool false]) ?_
   (try simp only [Act.put, gA, gS, gZ, sA, sZ, sS])
   refine wv (.agg (poA (pW x u true 2 0))) ?_
   (try simp only [Act.put, gA, gS, gZ, sA, sZ, sS])
   refine wv (.bool false) ?_
   (try simp only [Act.put, gA, gS, gZ, sA, sZ, sS])
   refine kb_alloc K13.out 42 (nil21) rfl z50 (by rfl) ?_
   intro b14 w14 hb14 hk
   have K14 := Lib.hid (show Kb w [(b1, lqA y, 26), (b3, cfA ⟨0, 0, 0, dl, 0, 0⟩, 38), (b6, poA (pW x u x.p9 x.p11 x.p19), 42), (b9, poA (pW x u x.p9 x.p11 x.p19), 42), (b11, poA (pW x u x.p9 x.p11 x.p19), 42), (b14, nil21, 42)] w14 from hk)
   clear hk hb14
   (try simp only [Act.put, gA, gS, gZ, sA, sZ, sS])
   refine kb_row K14.out 5 rfl 42 _ _ (poA (pW x u true 2 0)) rfl rfl rfl rfl (size50) (by rfl) (po_all _) ?_
   intro w15 hk
   have K15 := Lib.hid (show Kb w [(b1, lqA y, 26), (b3, cfA ⟨0, 0, 0, dl, 0, 0⟩, 38), (b6, poA (pW x u x.p9 x.p11 x.p19), 42), (b9, poA (pW x u x.p9 x.p11 x.p19), 42), (b11, poA (pW x u x.p9 x.p11 x.p19), 42), (b14, poA (pW x u true 2 0), 42)] w15 from hk)
   clear hk
   (try simp only [Act.put, gA, gS, gZ, sA, sZ, sS])
   refine wv (.bool false) ?_
   (try simp only [Act.put, gA, gS, gZ, sA, sZ, sS])
   refine wpList_nil ?_
   go_upto_region 17 with fail
   refine wp_region_lit ?_
   refine wv (.agg (poA (pW x u x.p9 x.p11 x.p19))) ?_ (hrun := kb_all K15.out 2 rfl 42 _ rfl rfl Try.underlying42 rfl (size50))
   (try simp only [Act.put, gA, gS, gZ, sA, sZ, sS])
   refine kb_row K15.out 4 rfl 42 _ _ (poA (pW x u x.p9 x.p11 x.p19)) rfl rfl rfl rfl (size50) (by rfl) (po_all _) ?_
   intro w16 hk
   have K16 := Lib.hid (show Kb w [(b1, lqA y, 26), (b3, cfA ⟨0, 0, 0, dl, 0, 0⟩, 38), (b6, poA (pW x u x.p9 x.p11 x.p19), 42), (b9, poA (pW x u x.p9 x.p11 x.p19), 42), (b11, poA (pW x u x.p9 x.p11 x.p19), 42), (b14, poA (pW x u true 2 0), 42)] w16 from hk)
   clear hk
   (try simp only [Act.put, gA, gS, gZ, sA, sZ, sS])
   refine wpList_nil ?_
   go_upto_region 18 with fail
   refine wp_region_lit ?_
   refine wv (.pointer (some ⟨b6, 10, none⟩)) ?_
   (try simp only [Act.put, gA, gS, gZ, sA, sZ, sS])
   refine wv (.int .i64 x.p10) ?_ (hrun := by have q : w16.cell? ⟨b6, 10, none⟩ = some (.int .i64 x.p10) := K16.out.cell (i := 2) rfl (by rfl); go_simp)
   (try simp only [Act.put, gA, gS, gZ, sA, sZ, sS])
   refine wv (.bool true) ?_ (hrun := by have q := HR.out; go_simp)
   (try simp only [Act.put, gA, gS, gZ, sA, sZ, sS])
   refine wpList_nil ?_
   go_upto_region 19 with fail
   refine wp_region_lit ?_
   refine wv (.pointer (some ⟨b11, 9, none⟩)) ?_
   (try simp only [Act.put, gA, gS, gZ, sA, sZ, sS])
   refine kb_set K16.out 4 rfl 4 _ _ 9 (.bool true) rfl (by rfl) rfl rfl (kb_run_set K16.out (i := 4) rfl 4 9 (.bool x.p9) (.bool true) (by rfl) (fun W h1 h2 => by go_simp)) (poA (pW x u true x.p11 x.p19)) (by kernel_rfl) ?_
   intro w17 hk
   have K17 := Lib.hid (show Kb w [(b1, lqA y, 26), (b3, cfA ⟨0, 0, 0, dl, 0, 0⟩, 38), (b6, poA (pW x u x.p9 x.p11 x.p19), 42), (b9, poA (pW x u x.p9 x.p11 x.p19), 42), (b11, poA (pW x u true x.p11 x.p19), 42), (b14, poA (pW x u true 2 0), 42)] w17 from hk)
   clear hk
   (try simp only [Act.put, gA, gS, gZ, sA, sZ, sS])
   refine wv (.pointer (some ⟨b11, 11, none⟩)) ?_
   (try simp only [Act.put, gA, gS, gZ, sA, sZ, sS])
   refine kb_set K17.out 4 rfl 3 _ _ 11 (.int .i64 2) rfl (by rfl) rfl rfl (kb_run_set K17.out (i := 4) rfl 3 11 (.int .i64 x.p11) (.int .i64 2) (by rfl) (fun W h1 h2 => by go_simp)) (poA (pW x u true 2 x.p19)) (by kernel_rfl) ?_
   intro w18 hk
   have K18 := Lib.hid (show Kb w [(b1, lqA y, 26), (b3, cfA ⟨0, 0, 0, dl, 0, 0⟩, 38), (b6, poA (pW x u x.p9 x.p11 x.p19), 42), (b9, poA (pW x u x.p9 x.p11 x.p19), 42), (b11, poA (pW x u true 2 x.p19), 42), (b14, poA (pW x u true 2 0), 42)] w18 from hk)
   clear hk
   (try simp only [Act.put, gA, gS, gZ, sA, sZ, sS])
   refine wv (.pointer (some ⟨b11, 19, none⟩)) ?_
   (try simp only [Act.put, gA, gS, gZ, sA, sZ, sS])
   refine kb_set K18.out 4 rfl 3 _ _ 19 (.int .i64 0) rfl (by rfl) rfl rfl (kb_run_set K18.out (i := 4) rfl 3 19 (.int .i64 x.p19) (.int .i64 0) (by rfl) (fun W h1 h2 => by go_simp)) (poA (pW x u true 2 0)) (by kernel_rfl) ?_
   intro w19 hk
   have K19 := Lib.hid (show Kb w [(b1, lqA y, 26), (b3, cfA ⟨0, 0, 0, dl, 0, 0⟩, 38), (b6, poA (pW x u x.p9 x.p11 x.p19), 42), (b9, poA (pW x u x.p9 x.p11 x.p19), 42), (b11, poA (pW x u true 2 0), 42), (b14, poA (pW x u true 2 0), 42)] w19 from hk)
   clear hk
   (try simp only [Act.put, gA, gS, gZ, sA, sZ, sS])
   refine wpList_nil ?_
   go_upto_region 20 with fail
   refine wp_region_lit ?_
   refine wv (.agg (poA (pW x u true 2 0))) ?_ (hrun := kb_all K19.out 5 rfl 42 _ rfl rfl Try.underlying42 rfl (size50))
   (try simp only [Act.put, gA, gS, gZ, sA, sZ, sS])
   refine wv (.agg (poA (pW x u true 2 0))) ?_ (hrun := kb_all K19.out 4 rfl 42 _ rfl rfl Try.underlying42 rfl (size50))
   (try simp only [Act.put, gA, gS, gZ, sA, sZ, sS])
   refine wv (.bool false) ?_ (hrun := by have q := eq_po (pW x u true 2 0); go_simp)
   (try simp only [Act.put, gA, gS, gZ, sA, sZ, sS])
   refine wv (.bool false) ?_
   (try simp only [Act.put, gA, gS, gZ, sA, sZ, sS])
   refine wv (.bool false) ?_
   (try simp only [Act.put, gA, gS, gZ, sA, sZ, sS])
   refine wv (.pointer (some ⟨b11, 11, none⟩)) ?_
   (try simp only [Act.put, gA, gS, gZ, sA, sZ, sS])
   refine wv (.int .i64 2) ?_ (hrun := by have q : w19.cell? ⟨b11, 11, none⟩ = some (.int .i64 2) := K19.out.cell (i := 4) rfl (by rfl); go_simp)
   (try simp only [Act.put, gA, gS, gZ, sA, sZ, sS])
   refine wv (.bool true) ?_
   (try simp only [Act.put, gA, gS, gZ, sA, sZ, sS])
   refine wv (.bool true) ?_
   (try simp only [Act.put, gA, gS, gZ, sA, sZ, sS])
   refine wv (.pointer (some ⟨b6, 11, none⟩)) ?_
   (try simp only [Act.put, gA, gS, gZ, sA, sZ, sS])
   refine wv (.int .i64 x.p11) ?_ (hrun := by have q : w19.cell? ⟨b6, 11, none⟩ = some (.int .i64 x.p11) := K19.out.cell (i := 2) rfl (by rfl); go_simp)
   (try simp only [Act.put, gA, gS, gZ, sA, sZ, sS])
   refine wv (.bool false) ?_ (hrun := by have q := HS.out; go_simp)
   (try simp only [Act.put, gA, gS, gZ, sA, sZ, sS])
   refine wv (.bool false) ?_ (hrun := run_pick_yes (.tmp 92) (.tmp 95) (.const (.bool false)) _ rfl rfl rfl)
   (try simp only [Act.put, gA, gS, gZ, sA, sZ, sS])
   refine wv (.bool false) ?_
   (try simp only [Act.put, gA, gS, gZ, sA, sZ, sS])
   refine wv (.bool false) ?_ (hrun := run_pick_no (.tmp 87) (.const (.bool true)) (.tmp 97) _ rfl rfl rfl)
   (try simp only [Act.put, gA, gS, gZ, sA, sZ, sS])
   refine wpList_nil ?_
   go_upto_region 22 with fail
   refine wp_region_lit ?_
   refine wv (.agg (poA (pW x u x.p9 x.p11 x.p19))) ?_ (hrun := kb_all K19.out 2 rfl 42 _ rfl rfl Try.underlying42 rfl (size50))
   (try simp only [Act.put, gA, gS, gZ, sA, sZ, sS])
   refine wv (.agg (cfA ⟨0, 0, 0, dl, 0, 0⟩)) ?_ (hrun := kb_all K19.out 1 rfl 38 _ rfl rfl Try.underlying38 rfl (size34))
   (try simp only [Act.put, gA, gS, gZ, sA, sZ, sS])
   refine kb_call K19.out 12 #[.agg (poA (pW x u x.p9 x.p11 x.p19)), .agg (cfA ⟨0, 0, 0, dl, 0, 0⟩)] (.agg (poA (pW x u x.p9 x.p11 x.p19))) (by rfl) (by go_simp) (block_is (pW x u x.p9 x.p11 x.p19) (pW x u x.p9 x.p11 x.p19) ⟨0, 0, 0, dl, 0, 0⟩ (by unfold blockP; rw [if_neg (fun h => Bool.noConfusion (H9.out.symm.trans h.2.2.1))]) w19) ?_
   intro w20 hk
   have K20 := Lib.hid (show Kb w [(b1, lqA y, 26), (b3, cfA ⟨0, 0, 0, dl, 0, 0⟩, 38), (b6, poA (pW x u x.p9 x.p11 x.p19), 42), (b9, poA (pW x u x.p9 x.p11 x.p19), 42), (b11, poA (pW x u true 2 0), 42), (b14, poA (pW x u true 2 0), 42)] w20 from hk)
   clear hk
   (try simp only [Act.put, gA, gS, gZ, sA, sZ, sS])
   refine kb_alloc K20.out 42 (nil21) rfl z50 (by rfl) ?_
   intro b21 w21 hb21 hk
   have K21 := Lib.hid (show Kb w [(b1, lqA y, 26), (b3, cfA ⟨0, 0, 0, dl, 0, 0⟩, 38), (b6, poA (pW x u x.p9 x.p11 x.p19), 42), (b9, poA (pW x u x.p9 x.p11 x.p19), 42), (b11, poA (pW x u true 2 0), 42), (b14, poA (pW x u true 2 0), 42), (b21, nil21, 42)] w21 from hk)
   clear hk hb21
   (try simp only [Act.put, gA, gS, gZ, sA, sZ, sS])
   refine kb_row K21.out 6 rfl 42 _ _ (poA (pW x u x.p9 x.p11 x.p19)) rfl rfl rfl rfl (size50) (by rfl) (po_all _) ?_
   intro w22 hk
   have K22 := Lib.hid (show Kb w [(b1, lqA y, 26), (b3, cfA ⟨0, 0, 0, dl, 0, 0⟩, 38), (b6, poA (pW x u x.p9 x.p11 x.p19), 42), (b9, poA (pW x u x.p9 x.p11 x.p19), 42), (b11, poA (pW x u true 2 0), 42), (b14, poA (pW x u true 2 0), 42), (b21, poA (pW x u x.p9 x.p11 x.p19), 42)] w22 from hk)
   clear hk
   (try simp only [Act.put, gA, gS, gZ, sA, sZ, sS])
   refine wpList_nil ?_
   go_upto_region 23 with fail
   refine wp_region_lit ?_
   refine wv (.agg (poA (pW x u x.p9 x.p11 x.p19))) ?_ (hrun := kb_all K22.out 2 rfl 42 _ rfl rfl Try.underlying42 rfl (size50))
   (try simp only [Act.put, gA, gS, gZ, sA, sZ, sS])
   refine kb_row K22.out 4 rfl 42 _ _ (poA (pW x u x.p9 x.p11 x.p19)) rfl rfl rfl rfl (size50) (by rfl) (po_all _) ?_
   intro w23 hk
   have K23 := Lib.hid (show Kb w [(b1, lqA y, 26), (b3, cfA ⟨0, 0, 0, dl, 0, 0⟩, 38), (b6, poA (pW x u x.p9 x.p11 x.p19), 42), (b9, poA (pW x u x.p9 x.p11 x.p19), 42), (b11, poA (pW x u x.p9 x.p11 x.p19), 42), (b14, poA (pW x u true 2 0), 42), (b21, poA (pW x u x.p9 x.p11 x.p19), 42)] w23 from hk)
   clear hk
   (try simp only [Act.put, gA, gS, gZ, sA, sZ, sS])
   refine wpList_nil ?_
   go_upto_region 24 with fail
   refine wp_region_lit ?_
   refine wv (.pointer (some ⟨b6, 10, none⟩)) ?_
   (try simp only [Act.put, gA, gS, gZ, sA, sZ, sS])
   refine wv (.int .i64 x.p10) ?_ (hrun := by have q : w23.cell? ⟨b6, 10, none⟩ = some (.int .i64 x.p10) := K23.out.cell (i := 2) rfl (by rfl); go_simp)
   (try simp only [Act.put, gA, gS, gZ, sA, sZ, sS])
   refine wv (.bool true) ?_ (hrun := by have q := HR.out; go_simp)
   (try simp only [Act.put, gA, gS, gZ, sA, sZ, sS])
   refine wv (.bool true) ?_
   (try simp only [Act.put, gA, gS, gZ, sA, sZ, sS])
   refine wv (.bool false) ?_
   (try simp only [Act.put, gA, gS, gZ, sA, sZ, sS])
   refine wv (.bool true) ?_
   (try simp only [Act.put, gA, gS, gZ, sA, sZ, sS])
   refine wv (.bool true) ?_ (hrun := run_pick_yes (.tmp 106) (.tmp 108) (.const (.bool false)) _ rfl rfl rfl)
   (try simp only [Act.put, gA, gS, gZ, sA, sZ, sS])
   refine wv (.bool true) ?_
   (try simp only [Act.put, gA, gS, gZ, sA, sZ, sS])
   refine wv (.pointer (some ⟨b6, 9, none⟩)) ?_
   (try simp only [Act.put, gA, gS, gZ, sA, sZ, sS])
   refine wv (.bool true) ?_ (hrun := by have q : w23.cell? ⟨b6, 9, none⟩ = some (.bool x.p9) := K23.out.cell (i := 2) rfl (by rfl); rw [H9.out] at q; go_simp)
   (try simp only [Act.put, gA, gS, gZ, sA, sZ, sS])
   refine wv (.bool false) ?_
   (try simp only [Act.put, gA, gS, gZ, sA, sZ, sS])
   refine wv (.bool false) ?_ (hrun := run_pick_yes (.tmp 110) (.tmp 113) (.const (.bool false)) _ rfl rfl rfl)
   (try simp only [Act.put, gA, gS, gZ, sA, sZ, sS])
   refine wv (.bool false) ?_
   (try simp only [Act.put, gA, gS, gZ, sA, sZ, sS])
   refine wpList_skip (by kernel_rfl) ?_
   (try simp only [Act.put, gA, gS, gZ, sA, sZ, sS])
   refine wpList_skip (by kernel_rfl) ?_
   (try simp only [Act.put, gA, gS, gZ, sA, sZ, sS])
   refine wpList_skip (by kernel_rfl) ?_
   (try simp only [Act.put, gA, gS, gZ, sA, sZ, sS])
   refine wv (.bool false) ?_ (hrun := run_pick_no (.tmp 115) (.tmp 118) (.const (.bool false)) _ rfl rfl rfl)
   (try simp only [Act.put, gA, gS, gZ, sA, sZ, sS])
   refine wpList_nil ?_
   go_upto_region 26 with fail
   refine wp_region_lit ?_
   refine wv (.agg (poA (pW x u x.p9 x.p11 x.p19))) ?_ (hrun := kb_all K23.out 6 rfl 42 _ rfl rfl Try.underlying42 rfl (size50))
   (try simp only [Act.put, gA, gS, gZ, sA, sZ, sS])
   refine wv (.agg (poA (pW x u x.p9 x.p11 x.p19))) ?_ (hrun := kb_all K23.out 4 rfl 42 _ rfl rfl Try.underlying42 rfl (size50))
   (try simp only [Act.put, gA, gS, gZ, sA, sZ, sS])
   refine wv (.bool true) ?_ (hrun := by have q := eq_po (pW x u x.p9 x.p11 x.p19); go_simp)
   (try simp only [Act.put, gA, gS, gZ, sA, sZ, sS])
   refine wv (.bool true) ?_
   (try simp only [Act.put, gA, gS, gZ, sA, sZ, sS])
   refine wv (.agg (poA (pW x u x.p9 x.p11 x.p19))) ?_ (hrun := kb_all K23.out 2 rfl 42 _ rfl rfl Try.underlying42 rfl (size50))
   (try simp only [Act.put, gA, gS, gZ, sA, sZ, sS])
   refine kb_call K23.out 13 #[.agg (poA (pW x u x.p9 x.p11 x.p19))] (.bool false) (by rfl) (by go_simp) (edge_is (pW x u x.p9 x.p11 x.p19) false HED.out w23) ?_
   intro w24 hk
   have K24 := Lib.hid (show Kb w [(b1, lqA y, 26), (b3, cfA ⟨0, 0, 0, dl, 0, 0⟩, 38), (b6, poA (pW x u x.p9 x.p11 x.p19), 42), (b9, poA (pW x u x.p9 x.p11 x.p19), 42), (b11, poA (pW x u x.p9 x.p11 x.p19), 42), (b14, poA (pW x u true 2 0), 42), (b21, poA (pW x u x.p9 x.p11 x.p19), 42)] w24 from hk)
   clear hk
   (try simp only [Act.put, gA, gS, gZ, sA, sZ, sS])
   refine wv (.bool false) ?_
   (try simp only [Act.put, gA, gS, gZ, sA, sZ, sS])
   refine wv (.bool true) ?_
   (try simp only [Act.put, gA, gS, gZ, sA, sZ, sS])
   refine wv (.bool true) ?_ (hrun := run_pick_yes (.tmp 126) (.tmp 130) (.const (.bool false)) _ rfl rfl rfl)
   (try simp only [Act.put, gA, gS, gZ, sA, sZ, sS])
   refine wv (.bool true) ?_
   (try simp only [Act.put, gA, gS, gZ, sA, sZ, sS])
   refine wpList_nil ?_
   go_wp2_with fail
   go_ret
   exact ⟨ret_bool (rfl), K24.out.below⟩
 case inr =>
  have H5 := Lib.hid h5
  clear h5
  rcases bool_two x.p8 with h8 | h8
  case inl =>
   have H8 := Lib.hid h8
   clear h8
   rcases bool_two x.p9 with h9 | h9
   case inl =>
    have H9 := Lib.hid h9
    clear h9
    have HED := Lib.hid (show edgeB (pW x u x.p9 x.p11 x.p19) = false from by show (x.p5 && x.p8) = _; simp [H5.out, H8.out])
    refine wp_region_lit ?_
    refine wv (.pointer (some ⟨b6, 5, none⟩)) ?_
    (try simp only [Act.put, gA, gS, gZ, sA, sZ, sS])
    refine wv (.bool true) ?_ (hrun := by have q : w7.cell? ⟨b6, 5, none⟩ = some (.bool x.p5) := K7.out.cell (i := 2) rfl (by rfl); rw [H5.out] at q; go_simp)
    (try simp only [Act.put, gA, gS, gZ, sA, sZ, sS])
    refine wv (.bool true) ?_
    (try simp only [Act.put, gA, gS, gZ, sA, sZ, sS])
    refine wv (.pointer (some ⟨b6, 8, none⟩)) ?_
    (try simp only [Act.put, gA, gS, gZ, sA, sZ, sS])
    refine wv (.bool false) ?_ (hrun := by have q : w7.cell? ⟨b6, 8, none⟩ = some (.bool x.p8) := K7.out.cell (i := 2) rfl (by rfl); rw [H8.out] at q; go_simp)
    (try simp only [Act.put, gA, gS, gZ, sA, sZ, sS])
    refine wv (.bool false) ?_ (hrun := run_pick_yes (.tmp 21) (.tmp 23) (.const (.bool false)) _ rfl rfl rfl)
    (try simp only [Act.put, gA, gS, gZ, sA, sZ, sS])
    refine wv (.bool false) ?_
    (try simp only [Act.put, gA, gS, gZ, sA, sZ, sS])
    refine wpList_nil ?_
    go_upto_region 6 with fail
    refine wp_region_lit ?_
    refine wv (.agg (poA (pW x u x.p9 x.p11 x.p19))) ?_ (hrun := kb_all K7.out 2 rfl 42 _ rfl rfl Try.underlying42 rfl (size50))
    (try simp only [Act.put, gA, gS, gZ, sA, sZ, sS])
    refine wv (.agg (cfA ⟨0, 0, 0, dl, 0, 0⟩)) ?_ (hrun := kb_all K7.out 1 rfl 38 _ rfl rfl Try.underlying38 rfl (size34))
    (try simp only [Act.put, gA, gS, gZ, sA, sZ, sS])
    refine kb_call K7.out 10 #[.agg (poA (pW x u x.p9 x.p11 x.p19)), .agg (cfA ⟨0, 0, 0, dl, 0, 0⟩)] (.tuple #[.agg (poA (pW x u x.p9 x.p11 x.p19)), .bool false]) (by rfl) (by go_simp) (step_is (pW x u x.p9 x.p11 x.p19) (pW x u x.p9 x.p11 x.p19) ⟨0, 0, 0, dl, 0, 0⟩ false (by show stepP (pW x u x.p9 x.p11 x.p19) dl = _; unfold stepP; rw [if_pos HR.out, if_pos HS.out]) (by show (decide (x.p11 = (2 : Int)) && !decide (x.p11 = 2)) = _; simp [HS.out]) w7) ?_
    intro w8 hk
    have K8 := Lib.hid (show Kb w [(b1, lqA y, 26), (b3, cfA ⟨0, 0, 0, dl, 0, 0⟩, 38), (b6, poA (pW x u x.p9 x.p11 x.p19), 42)] w8 from hk)
    clear hk
    (try simp only [Act.put, gA, gS, gZ, sA, sZ, sS])
    refine wv (.tuple #[.agg (poA (pW x u x.p9 x.p11 x.p19)), .bool false]) ?_
    (try simp only [Act.put, gA, gS, gZ, sA, sZ, sS])
    refine wv (.agg (poA (pW x u x.p9 x.p11 x.p19))) ?_
    (try simp only [Act.put, gA, gS, gZ, sA, sZ, sS])
    refine wv (.bool false) ?_
    (try simp only [Act.put, gA, gS, gZ, sA, sZ, sS])
    refine kb_alloc K8.out 42 (nil21) rfl z50 (by rfl) ?_
    intro b9 w9 hb9 hk
    have K9 := Lib.hid (show Kb w [(b1, lqA y, 26), (b3, cfA ⟨0, 0, 0, dl, 0, 0⟩, 38), (b6, poA (pW x u x.p9 x.p11 x.p19), 42), (b9, nil21, 42)] w9 from hk)
    clear hk hb9
    (try simp only [Act.put, gA, gS, gZ, sA, sZ, sS])
    refine kb_row K9.out 3 rfl 42 _ _ (poA (pW x u x.p9 x.p11 x.p19)) rfl rfl rfl rfl (size50) (by rfl) (po_all _) ?_
    intro w10 hk
    have K10 := Lib.hid (show Kb w [(b1, lqA y, 26), (b3, cfA ⟨0, 0, 0, dl, 0, 0⟩, 38), (b6, poA (pW x u x.p9 x.p11 x.p19), 42), (b9, poA (pW x u x.p9 x.p11 x.p19), 42)] w10 from hk)
    clear hk
    (try simp only [Act.put, gA, gS, gZ, sA, sZ, sS])
    refine wv (.bool false) ?_
    (try simp only [Act.put, gA, gS, gZ, sA, sZ, sS])
    refine wpList_nil ?_
    go_upto_region 7 with fail
    refine wp_region_lit ?_
    refine wv (.agg (poA (pW x u x.p9 x.p11 x.p19))) ?_ (hrun := kb_all K10.out 2 rfl 42 _ rfl rfl Try.underlying42 rfl (size50))
    (try simp only [Act.put, gA, gS, gZ, sA, sZ, sS])
    refine kb_alloc K10.out 42 (nil21) rfl z50 (by rfl) ?_
    intro b11 w11 hb11 hk
    have K11 := Lib.hid (show Kb w [(b1, lqA y, 26), (b3, cfA ⟨0, 0, 0, dl, 0, 0⟩, 38), (b6, poA (pW x u x.p9 x.p11 x.p19), 42), (b9, poA (pW x u x.p9 x.p11 x.p19), 42), (b11, nil21, 42)] w11 from hk)
    clear hk hb11
    (try simp only [Act.put, gA, gS, gZ, sA, sZ, sS])
    refine kb_row K11.out 4 rfl 42 _ _ (poA (pW x u x.p9 x.p11 x.p19)) rfl rfl rfl rfl (size50) (by rfl) (po_all _) ?_
    intro w12 hk
    have K12 := Lib.hid (show Kb w [(b1, lqA y, 26), (b3, cfA ⟨0, 0, 0, dl, 0, 0⟩, 38), (b6, poA (pW x u x.p9 x.p11 x.p19), 42), (b9, poA (pW x u x.p9 x.p11 x.p19), 42), (b11, poA (pW x u x.p9 x.p11 x.p19), 42)] w12 from hk)
    clear hk
    (try simp only [Act.put, gA, gS, gZ, sA, sZ, sS])
    refine wpList_nil ?_
    go_upto_region 8 with fail
    refine wp_region_lit ?_
    refine wv (.pointer (some ⟨b6, 10, none⟩)) ?_
    (try simp only [Act.put, gA, gS, gZ, sA, sZ, sS])
    refine wv (.int .i64 x.p10) ?_ (hrun := by have q : w12.cell? ⟨b6, 10, none⟩ = some (.int .i64 x.p10) := K12.out.cell (i := 2) rfl (by rfl); go_simp)
    (try simp only [Act.put, gA, gS, gZ, sA, sZ, sS])
    refine wv (.bool true) ?_ (hrun := by have q := HR.out; go_simp)
    (try simp only [Act.put, gA, gS, gZ, sA, sZ, sS])
    refine wv (.bool true) ?_
    (try simp only [Act.put, gA, gS, gZ, sA, sZ, sS])
    refine wv (.pointer (some ⟨b6, 11, none⟩)) ?_
    (try simp only [Act.put, gA, gS, gZ, sA, sZ, sS])
    refine wv (.int .i64 x.p11) ?_ (hrun := by have q : w12.cell? ⟨b6, 11, none⟩ = some (.int .i64 x.p11) := K12.out.cell (i := 2) rfl (by rfl); go_simp)
    (try simp only [Act.put, gA, gS, gZ, sA, sZ, sS])
    refine wv (.bool false) ?_ (hrun := by have q := HS.out; go_simp)
    (try simp only [Act.put, gA, gS, gZ, sA, sZ, sS])
    refine wv (.bool false) ?_ (hrun := run_pick_yes (.tmp 35) (.tmp 38) (.const (.bool false)) _ rfl rfl rfl)
    (try simp only [Act.put, gA, gS, gZ, sA, sZ, sS])
    refine wpList_nil ?_
    go_upto_region 14 with fail
    refine wp_region_lit ?_
    refine wv (.agg (poA (pW x u x.p9 x.p11 x.p19))) ?_ (hrun := kb_all K12.out 3 rfl 42 _ rfl rfl Try.underlying42 rfl (size50))
    (try simp only [Act.put, gA, gS, gZ, sA, sZ, sS])
    refine wv (.agg (poA (pW x u x.p9 x.p11 x.p19))) ?_ (hrun := kb_all K12.out 4 rfl 42 _ rfl rfl Try.underlying42 rfl (size50))
    (try simp only [Act.put, gA, gS, gZ, sA, sZ, sS])
    refine wv (.bool false) ?_ (hrun := by have q := eq_po (pW x u x.p9 x.p11 x.p19); go_simp)
    (try simp only [Act.put, gA, gS, gZ, sA, sZ, sS])
    refine wv (.bool false) ?_
    (try simp only [Act.put, gA, gS, gZ, sA, sZ, sS])
    refine wv (.bool false) ?_
    (try simp only [Act.put, gA, gS, gZ, sA, sZ, sS])
    refine wv (.pointer (some ⟨b11, 11, none⟩)) ?_
    (try simp only [Act.put, gA, gS, gZ, sA, sZ, sS])
    refine wv (.int .i64 x.p11) ?_ (hrun := by have q : w12.cell? ⟨b11, 11, none⟩ = some (.int .i64 x.p11) := K12.out.cell (i := 4) rfl (by rfl); go_simp)
    (try simp only [Act.put, gA, gS, gZ, sA, sZ, sS])
    refine wv (.bool true) ?_ (hrun := by have q := HS.out; go_simp)
    (try simp only [Act.put, gA, gS, gZ, sA, sZ, sS])
    refine wv (.bool true) ?_
    (try simp only [Act.put, gA, gS, gZ, sA, sZ, sS])
    refine wv (.pointer (some ⟨b6, 11, none⟩)) ?_
    (try simp only [Act.put, gA, gS, gZ, sA, sZ, sS])
    refine wv (.int .i64 x.p11) ?_ (hrun := by have q : w12.cell? ⟨b6, 11, none⟩ = some (.int .i64 x.p11) := K12.out.cell (i := 2) rfl (by rfl); go_simp)
    (try simp only [Act.put, gA, gS, gZ, sA, sZ, sS])
    refine wv (.bool false) ?_ (hrun := by have q := HS.out; go_simp)
    (try simp only [Act.put, gA, gS, gZ, sA, sZ, sS])
    refine wv (.bool false) ?_ (hrun := run_pick_yes (.tmp 65) (.tmp 68) (.const (.bool false)) _ rfl rfl rfl)
    (try simp only [Act.put, gA, gS, gZ, sA, sZ, sS])
    refine wv (.bool false) ?_
    (try simp only [Act.put, gA, gS, gZ, sA, sZ, sS])
    refine wv (.bool false) ?_ (hrun := run_pick_no (.tmp 60) (.const (.bool true)) (.tmp 70) _ rfl rfl rfl)
    (try simp only [Act.put, gA, gS, gZ, sA, sZ, sS])
    refine wpList_nil ?_
    go_upto_region 16 with fail
    refine wp_region_lit ?_
    refine wv (.agg (poA (pW x u x.p9 x.p11 x.p19))) ?_ (hrun := kb_all K12.out 2 rfl 42 _ rfl rfl Try.underlying42 rfl (size50))
    (try simp only [Act.put, gA, gS, gZ, sA, sZ, sS])
    refine kb_call K12.out 11 #[.agg (poA (pW x u x.p9 x.p11 x.p19))] (.tuple #[.agg (poA (pW x u true 2 0)), .bool false]) (by rfl) (by go_simp) (agree_is (pW x u x.p9 x.p11 x.p19) (pW x u true 2 0) false (by unfold agreeP; rw [if_pos HR.out]) (by show (decide (2 = (2 : Int)) && !decide (x.p11 = 2)) = _; simp [HS.out]) w12) ?_
    intro w13 hk
    have K13 := Lib.hid (show Kb w [(b1, lqA y, 26), (b3, cfA ⟨0, 0, 0, dl, 0, 0⟩, 38), (b6, poA (pW x u x.p9 x.p11 x.p19), 42), (b9, poA (pW x u x.p9 x.p11 x.p19), 42), (b11, poA (pW x u x.p9 x.p11 x.p19), 42)] w13 from hk)
    clear hk
    (try simp only [Act.put, gA, gS, gZ, sA, sZ, sS])
    refine wv (.tuple #[.agg (poA (pW x u true 2 0)), .bool false]) ?_
    (try simp only [Act.put, gA, gS, gZ, sA, sZ, sS])
    refine wv (.agg (poA (pW x u true 2 0))) ?_
    (try simp only [Act.put, gA, gS, gZ, sA, sZ, sS])
    refine wv (.bool false) ?_
    (try simp only [Act.put, gA, gS, gZ, sA, sZ, sS])
    refine kb_alloc K13.out 42 (nil21) rfl z50 (by rfl) ?_
    intro b14 w14 hb14 hk
    have K14 := Lib.hid (show Kb w [(b1, lqA y, 26), (b3, cfA ⟨0, 0, 0, dl, 0, 0⟩, 38), (b6, poA (pW x u x.p9 x.p11 x.p19), 42), (b9, poA (pW x u x.p9 x.p11 x.p19), 42), (b11, poA (pW x u x.p9 x.p11 x.p19), 42), (b14, nil21, 42)] w14 from hk)
    clear hk hb14
    (try simp only [Act.put, gA, gS, gZ, sA, sZ, sS])
    refine kb_row K14.out 5 rfl 42 _ _ (poA (pW x u true 2 0)) rfl rfl rfl rfl (size50) (by rfl) (po_all _) ?_
    intro w15 hk
    have K15 := Lib.hid (show Kb w [(b1, lqA y, 26), (b3, cfA ⟨0, 0, 0, dl, 0, 0⟩, 38), (b6, poA (pW x u x.p9 x.p11 x.p19), 42), (b9, poA (pW x u x.p9 x.p11 x.p19), 42), (b11, poA (pW x u x.p9 x.p11 x.p19), 42), (b14, poA (pW x u true 2 0), 42)] w15 from hk)
    clear hk
    (try simp only [Act.put, gA, gS, gZ, sA, sZ, sS])
    refine wv (.bool false) ?_
    (try simp only [Act.put, gA, gS, gZ, sA, sZ, sS])
    refine wpList_nil ?_
    go_upto_region 17 with fail
    refine wp_region_lit ?_
    refine wv (.agg (poA (pW x u x.p9 x.p11 x.p19))) ?_ (hrun := kb_all K15.out 2 rfl 42 _ rfl rfl Try.underlying42 rfl (size50))
    (try simp only [Act.put, gA, gS, gZ, sA, sZ, sS])
    refine kb_row K15.out 4 rfl 42 _ _ (poA (pW x u x.p9 x.p11 x.p19)) rfl rfl rfl rfl (size50) (by rfl) (po_all _) ?_
    intro w16 hk
    have K16 := Lib.hid (show Kb w [(b1, lqA y, 26), (b3, cfA ⟨0, 0, 0, dl, 0, 0⟩, 38), (b6, poA (pW x u x.p9 x.p11 x.p19), 42), (b9, poA (pW x u x.p9 x.p11 x.p19), 42), (b11, poA (pW x u x.p9 x.p11 x.p19), 42), (b14, poA (pW x u true 2 0), 42)] w16 from hk)
    clear hk
    (try simp only [Act.put, gA, gS, gZ, sA, sZ, sS])
    refine wpList_nil ?_
    go_upto_region 18 with fail
    refine wp_region_lit ?_
    refine wv (.pointer (some ⟨b6, 10, none⟩)) ?_
    (try simp only [Act.put, gA, gS, gZ, sA, sZ, sS])
    refine wv (.int .i64 x.p10) ?_ (hrun := by have q : w16.cell? ⟨b6, 10, none⟩ = some (.int .i64 x.p10) := K16.out.cell (i := 2) rfl (by rfl); go_simp)
    (try simp only [Act.put, gA, gS, gZ, sA, sZ, sS])
    refine wv (.bool true) ?_ (hrun := by have q := HR.out; go_simp)
    (try simp only [Act.put, gA, gS, gZ, sA, sZ, sS])
    refine wpList_nil ?_
    go_upto_region 19 with fail
    refine wp_region_lit ?_
    refine wv (.pointer (some ⟨b11, 9, none⟩)) ?_
    (try simp only [Act.put, gA, gS, gZ, sA, sZ, sS])
    refine kb_set K16.out 4 rfl 4 _ _ 9 (.bool true) rfl (by rfl) rfl rfl (kb_run_set K16.out (i := 4) rfl 4 9 (.bool x.p9) (.bool true) (by rfl) (fun W h1 h2 => by go_simp)) (poA (pW x u true x.p11 x.p19)) (by kernel_rfl) ?_
    intro w17 hk
    have K17 := Lib.hid (show Kb w [(b1, lqA y, 26), (b3, cfA ⟨0, 0, 0, dl, 0, 0⟩, 38), (b6, poA (pW x u x.p9 x.p11 x.p19), 42), (b9, poA (pW x u x.p9 x.p11 x.p19), 42), (b11, poA (pW x u true x.p11 x.p19), 42), (b14, poA (pW x u true 2 0), 42)] w17 from hk)
    clear hk
    (try simp only [Act.put, gA, gS, gZ, sA, sZ, sS])
    refine wv (.pointer (some ⟨b11, 11, none⟩)) ?_
    (try simp only [Act.put, gA, gS, gZ, sA, sZ, sS])
    refine kb_set K17.out 4 rfl 3 _ _ 11 (.int .i64 2) rfl (by rfl) rfl rfl (kb_run_set K17.out (i := 4) rfl 3 11 (.int .i64 x.p11) (.int .i64 2) (by rfl) (fun W h1 h2 => by go_simp)) (poA (pW x u true 2 x.p19)) (by kernel_rfl) ?_
    intro w18 hk
    have K18 := Lib.hid (show Kb w [(b1, lqA y, 26), (b3, cfA ⟨0, 0, 0, dl, 0, 0⟩, 38), (b6, poA (pW x u x.p9 x.p11 x.p19), 42), (b9, poA (pW x u x.p9 x.p11 x.p19), 42), (b11, poA (pW x u true 2 x.p19), 42), (b14, poA (pW x u true 2 0), 42)] w18 from hk)
    clear hk
    (try simp only [Act.put, gA, gS, gZ, sA, sZ, sS])
    refine wv (.pointer (some ⟨b11, 19, none⟩)) ?_
    (try simp only [Act.put, gA, gS, gZ, sA, sZ, sS])
    refine kb_set K18.out 4 rfl 3 _ _ 19 (.int .i64 0) rfl (by rfl) rfl rfl (kb_run_set K18.out (i := 4) rfl 3 19 (.int .i64 x.p19) (.int .i64 0) (by rfl) (fun W h1 h2 => by go_simp)) (poA (pW x u true 2 0)) (by kernel_rfl) ?_
    intro w19 hk
    have K19 := Lib.hid (show Kb w [(b1, lqA y, 26), (b3, cfA ⟨0, 0, 0, dl, 0, 0⟩, 38), (b6, poA (pW x u x.p9 x.p11 x.p19), 42), (b9, poA (pW x u x.p9 x.p11 x.p19), 42), (b11, poA (pW x u true 2 0), 42), (b14, poA (pW x u true 2 0), 42)] w19 from hk)
    clear hk
    (try simp only [Act.put, gA, gS, gZ, sA, sZ, sS])
    refine wpList_nil ?_
    go_upto_region 20 with fail
    refine wp_region_lit ?_
    refine wv (.agg (poA (pW x u true 2 0))) ?_ (hrun := kb_all K19.out 5 rfl 42 _ rfl rfl Try.underlying42 rfl (size50))
    (try simp only [Act.put, gA, gS, gZ, sA, sZ, sS])
    refine wv (.agg (poA (pW x u true 2 0))) ?_ (hrun := kb_all K19.out 4 rfl 42 _ rfl rfl Try.underlying42 rfl (size50))
    (try simp only [Act.put, gA, gS, gZ, sA, sZ, sS])
    refine wv (.bool false) ?_ (hrun := by have q := eq_po (pW x u true 2 0); go_simp)
    (try simp only [Act.put, gA, gS, gZ, sA, sZ, sS])
    refine wv (.bool false) ?_
    (try simp only [Act.put, gA, gS, gZ, sA, sZ, sS])
    refine wv (.bool false) ?_
    (try simp only [Act.put, gA, gS, gZ, sA, sZ, sS])
    refine wv (.pointer (some ⟨b11, 11, none⟩)) ?_
    (try simp only [Act.put, gA, gS, gZ, sA, sZ, sS])
    refine wv (.int .i64 2) ?_ (hrun := by have q : w19.cell? ⟨b11, 11, none⟩ = some (.int .i64 2) := K19.out.cell (i := 4) rfl (by rfl); go_simp)
    (try simp only [Act.put, gA, gS, gZ, sA, sZ, sS])
    refine wv (.bool true) ?_
    (try simp only [Act.put, gA, gS, gZ, sA, sZ, sS])
    refine wv (.bool true) ?_
    (try simp only [Act.put, gA, gS, gZ, sA, sZ, sS])
    refine wv (.pointer (some ⟨b6, 11, none⟩)) ?_
    (try simp only [Act.put, gA, gS, gZ, sA, sZ, sS])
    refine wv (.int .i64 x.p11) ?_ (hrun := by have q : w19.cell? ⟨b6, 11, none⟩ = some (.int .i64 x.p11) := K19.out.cell (i := 2) rfl (by rfl); go_simp)
    (try simp only [Act.put, gA, gS, gZ, sA, sZ, sS])
    refine wv (.bool false) ?_ (hrun := by have q := HS.out; go_simp)
    (try simp only [Act.put, gA, gS, gZ, sA, sZ, sS])
    refine wv (.bool false) ?_ (hrun := run_pick_yes (.tmp 92) (.tmp 95) (.const (.bool false)) _ rfl rfl rfl)
    (try simp only [Act.put, gA, gS, gZ, sA, sZ, sS])
    refine wv (.bool false) ?_
    (try simp only [Act.put, gA, gS, gZ, sA, sZ, sS])
    refine wv (.bool false) ?_ (hrun := run_pick_no (.tmp 87) (.const (.bool true)) (.tmp 97) _ rfl rfl rfl)
    (try simp only [Act.put, gA, gS, gZ, sA, sZ, sS])
    refine wpList_nil ?_
    go_upto_region 22 with fail
    refine wp_region_lit ?_
    refine wv (.agg (poA (pW x u x.p9 x.p11 x.p19))) ?_ (hrun := kb_all K19.out 2 rfl 42 _ rfl rfl Try.underlying42 rfl (size50))
    (try simp only [Act.put, gA, gS, gZ, sA, sZ, sS])
    refine wv (.agg (cfA ⟨0, 0, 0, dl, 0, 0⟩)) ?_ (hrun := kb_all K19.out 1 rfl 38 _ rfl rfl Try.underlying38 rfl (size34))
    (try simp only [Act.put, gA, gS, gZ, sA, sZ, sS])
    refine kb_call K19.out 12 #[.agg (poA (pW x u x.p9 x.p11 x.p19)), .agg (cfA ⟨0, 0, 0, dl, 0, 0⟩)] (.agg (poA (pW x u x.p9 0 dl))) (by rfl) (by go_simp) (block_is (pW x u x.p9 x.p11 x.p19) (pW x u x.p9 0 dl) ⟨0, 0, 0, dl, 0, 0⟩ (by unfold blockP; rw [if_pos ⟨HR.out, HED.out, H9.out, (show ¬ x.p11 = 0 by have := HS.out; omega)⟩]) w19) ?_
    intro w20 hk
    have K20 := Lib.hid (show Kb w [(b1, lqA y, 26), (b3, cfA ⟨0, 0, 0, dl, 0, 0⟩, 38), (b6, poA (pW x u x.p9 x.p11 x.p19), 42), (b9, poA (pW x u x.p9 x.p11 x.p19), 42), (b11, poA (pW x u true 2 0), 42), (b14, poA (pW x u true 2 0), 42)] w20 from hk)
    clear hk
    (try simp only [Act.put, gA, gS, gZ, sA, sZ, sS])
    refine kb_alloc K20.out 42 (nil21) rfl z50 (by rfl) ?_
    intro b21 w21 hb21 hk
    have K21 := Lib.hid (show Kb w [(b1, lqA y, 26), (b3, cfA ⟨0, 0, 0, dl, 0, 0⟩, 38), (b6, poA (pW x u x.p9 x.p11 x.p19), 42), (b9, poA (pW x u x.p9 x.p11 x.p19), 42), (b11, poA (pW x u true 2 0), 42), (b14, poA (pW x u true 2 0), 42), (b21, nil21, 42)] w21 from hk)
    clear hk hb21
    (try simp only [Act.put, gA, gS, gZ, sA, sZ, sS])
    refine kb_row K21.out 6 rfl 42 _ _ (poA (pW x u x.p9 0 dl)) rfl rfl rfl rfl (size50) (by rfl) (po_all _) ?_
    intro w22 hk
    have K22 := Lib.hid (show Kb w [(b1, lqA y, 26), (b3, cfA ⟨0, 0, 0, dl, 0, 0⟩, 38), (b6, poA (pW x u x.p9 x.p11 x.p19), 42), (b9, poA (pW x u x.p9 x.p11 x.p19), 42), (b11, poA (pW x u true 2 0), 42), (b14, poA (pW x u true 2 0), 42), (b21, poA (pW x u x.p9 0 dl), 42)] w22 from hk)
    clear hk
    (try simp only [Act.put, gA, gS, gZ, sA, sZ, sS])
    refine wpList_nil ?_
    go_upto_region 23 with fail
    refine wp_region_lit ?_
    refine wv (.agg (poA (pW x u x.p9 x.p11 x.p19))) ?_ (hrun := kb_all K22.out 2 rfl 42 _ rfl rfl Try.underlying42 rfl (size50))
    (try simp only [Act.put, gA, gS, gZ, sA, sZ, sS])
    refine kb_row K22.out 4 rfl 42 _ _ (poA (pW x u x.p9 x.p11 x.p19)) rfl rfl rfl rfl (size50) (by rfl) (po_all _) ?_
    intro w23 hk
    have K23 := Lib.hid (show Kb w [(b1, lqA y, 26), (b3, cfA ⟨0, 0, 0, dl, 0, 0⟩, 38), (b6, poA (pW x u x.p9 x.p11 x.p19), 42), (b9, poA (pW x u x.p9 x.p11 x.p19), 42), (b11, poA (pW x u x.p9 x.p11 x.p19), 42), (b14, poA (pW x u true 2 0), 42), (b21, poA (pW x u x.p9 0 dl), 42)] w23 from hk)
    clear hk
    (try simp only [Act.put, gA, gS, gZ, sA, sZ, sS])
    refine wpList_nil ?_
    go_upto_region 24 with fail
    refine wp_region_lit ?_
    refine wv (.pointer (some ⟨b6, 10, none⟩)) ?_
    (try simp only [Act.put, gA, gS, gZ, sA, sZ, sS])
    refine wv (.int .i64 x.p10) ?_ (hrun := by have q : w23.cell? ⟨b6, 10, none⟩ = some (.int .i64 x.p10) := K23.out.cell (i := 2) rfl (by rfl); go_simp)
    (try simp only [Act.put, gA, gS, gZ, sA, sZ, sS])
    refine wv (.bool true) ?_ (hrun := by have q := HR.out; go_simp)
    (try simp only [Act.put, gA, gS, gZ, sA, sZ, sS])
    refine wv (.bool true) ?_
    (try simp only [Act.put, gA, gS, gZ, sA, sZ, sS])
    refine wv (.bool false) ?_
    (try simp only [Act.put, gA, gS, gZ, sA, sZ, sS])
    refine wv (.bool true) ?_
    (try simp only [Act.put, gA, gS, gZ, sA, sZ, sS])
    refine wv (.bool true) ?_ (hrun := run_pick_yes (.tmp 106) (.tmp 108) (.const (.bool false)) _ rfl rfl rfl)
    (try simp only [Act.put, gA, gS, gZ, sA, sZ, sS])
    refine wv (.bool true) ?_
    (try simp only [Act.put, gA, gS, gZ, sA, sZ, sS])
    refine wv (.pointer (some ⟨b6, 9, none⟩)) ?_
    (try simp only [Act.put, gA, gS, gZ, sA, sZ, sS])
    refine wv (.bool false) ?_ (hrun := by have q : w23.cell? ⟨b6, 9, none⟩ = some (.bool x.p9) := K23.out.cell (i := 2) rfl (by rfl); rw [H9.out] at q; go_simp)
    (try simp only [Act.put, gA, gS, gZ, sA, sZ, sS])
    refine wv (.bool true) ?_
    (try simp only [Act.put, gA, gS, gZ, sA, sZ, sS])
    refine wv (.bool true) ?_ (hrun := run_pick_yes (.tmp 110) (.tmp 113) (.const (.bool false)) _ rfl rfl rfl)
    (try simp only [Act.put, gA, gS, gZ, sA, sZ, sS])
    refine wv (.bool true) ?_
    (try simp only [Act.put, gA, gS, gZ, sA, sZ, sS])
    refine wv (.pointer (some ⟨b6, 11, none⟩)) ?_
    (try simp only [Act.put, gA, gS, gZ, sA, sZ, sS])
    refine wv (.int .i64 x.p11) ?_ (hrun := by have q : w23.cell? ⟨b6, 11, none⟩ = some (.int .i64 x.p11) := K23.out.cell (i := 2) rfl (by rfl); go_simp)
    (try simp only [Act.put, gA, gS, gZ, sA, sZ, sS])
    refine wv (.bool true) ?_ (hrun := by have q : ¬ x.p11 = 0 := (show ¬ x.p11 = 0 by have := HS.out; omega); go_simp)
    (try simp only [Act.put, gA, gS, gZ, sA, sZ, sS])
    refine wv (.bool true) ?_ (hrun := run_pick_yes (.tmp 115) (.tmp 118) (.const (.bool false)) _ rfl rfl rfl)
    (try simp only [Act.put, gA, gS, gZ, sA, sZ, sS])
    refine wpList_nil ?_
    go_upto_region 25 with fail
    refine wp_region_lit ?_
    refine wv (.int .i64 dl) ?_
    (try simp only [Act.put, gA, gS, gZ, sA, sZ, sS])
    refine wv (.pointer (some ⟨b11, 11, none⟩)) ?_
    (try simp only [Act.put, gA, gS, gZ, sA, sZ, sS])
    refine kb_set K23.out 4 rfl 3 _ _ 11 (.int .i64 0) rfl (by rfl) rfl rfl (kb_run_set K23.out (i := 4) rfl 3 11 (.int .i64 x.p11) (.int .i64 0) (by rfl) (fun W h1 h2 => by go_simp)) (poA (pW x u x.p9 0 x.p19)) (by kernel_rfl) ?_
    intro w24 hk
    have K24 := Lib.hid (show Kb w [(b1, lqA y, 26), (b3, cfA ⟨0, 0, 0, dl, 0, 0⟩, 38), (b6, poA (pW x u x.p9 x.p11 x.p19), 42), (b9, poA (pW x u x.p9 x.p11 x.p19), 42), (b11, poA (pW x u x.p9 0 x.p19), 42), (b14, poA (pW x u true 2 0), 42), (b21, poA (pW x u x.p9 0 dl), 42)] w24 from hk)
    clear hk
    (try simp only [Act.put, gA, gS, gZ, sA, sZ, sS])
    refine wv (.pointer (some ⟨b11, 19, none⟩)) ?_
    (try simp only [Act.put, gA, gS, gZ, sA, sZ, sS])
    refine kb_set K24.out 4 rfl 3 _ _ 19 (.int .i64 dl) rfl (by rfl) rfl rfl (kb_run_set K24.out (i := 4) rfl 3 19 (.int .i64 x.p19) (.int .i64 dl) (by rfl) (fun W h1 h2 => by go_simp)) (poA (pW x u x.p9 0 dl)) (by kernel_rfl) ?_
    intro w25 hk
    have K25 := Lib.hid (show Kb w [(b1, lqA y, 26), (b3, cfA ⟨0, 0, 0, dl, 0, 0⟩, 38), (b6, poA (pW x u x.p9 x.p11 x.p19), 42), (b9, poA (pW x u x.p9 x.p11 x.p19), 42), (b11, poA (pW x u x.p9 0 dl), 42), (b14, poA (pW x u true 2 0), 42), (b21, poA (pW x u x.p9 0 dl), 42)] w25 from hk)
    clear hk
    (try simp only [Act.put, gA, gS, gZ, sA, sZ, sS])
    refine wpList_nil ?_
    go_upto_region 26 with fail
    refine wp_region_lit ?_
    refine wv (.agg (poA (pW x u x.p9 0 dl))) ?_ (hrun := kb_all K25.out 6 rfl 42 _ rfl rfl Try.underlying42 rfl (size50))
    (try simp only [Act.put, gA, gS, gZ, sA, sZ, sS])
    refine wv (.agg (poA (pW x u x.p9 0 dl))) ?_ (hrun := kb_all K25.out 4 rfl 42 _ rfl rfl Try.underlying42 rfl (size50))
    (try simp only [Act.put, gA, gS, gZ, sA, sZ, sS])
    refine wv (.bool true) ?_ (hrun := by have q := eq_po (pW x u x.p9 0 dl); go_simp)
    (try simp only [Act.put, gA, gS, gZ, sA, sZ, sS])
    refine wv (.bool true) ?_
    (try simp only [Act.put, gA, gS, gZ, sA, sZ, sS])
    refine wv (.agg (poA (pW x u x.p9 x.p11 x.p19))) ?_ (hrun := kb_all K25.out 2 rfl 42 _ rfl rfl Try.underlying42 rfl (size50))
    (try simp only [Act.put, gA, gS, gZ, sA, sZ, sS])
    refine kb_call K25.out 13 #[.agg (poA (pW x u x.p9 x.p11 x.p19))] (.bool false) (by rfl) (by go_simp) (edge_is (pW x u x.p9 x.p11 x.p19) false HED.out w25) ?_
    intro w26 hk
    have K26 := Lib.hid (show Kb w [(b1, lqA y, 26), (b3, cfA ⟨0, 0, 0, dl, 0, 0⟩, 38), (b6, poA (pW x u x.p9 x.p11 x.p19), 42), (b9, poA (pW x u x.p9 x.p11 x.p19), 42), (b11, poA (pW x u x.p9 0 dl), 42), (b14, poA (pW x u true 2 0), 42), (b21, poA (pW x u x.p9 0 dl), 42)] w26 from hk)
    clear hk
    (try simp only [Act.put, gA, gS, gZ, sA, sZ, sS])
    refine wv (.bool false) ?_
    (try simp only [Act.put, gA, gS, gZ, sA, sZ, sS])
    refine wv (.bool true) ?_
    (try simp only [Act.put, gA, gS, gZ, sA, sZ, sS])
    refine wv (.bool true) ?_ (hrun := run_pick_yes (.tmp 126) (.tmp 130) (.const (.bool false)) _ rfl rfl rfl)
    (try simp only [Act.put, gA, gS, gZ, sA, sZ, sS])
    refine wv (.bool true) ?_
    (try simp only [Act.put, gA, gS, gZ, sA, sZ, sS])
    refine wpList_nil ?_
    go_wp2_with fail
    go_ret
    exact ⟨ret_bool (rfl), K26.out.below⟩
   case inr =>
    have H9 := Lib.hid h9
    clear h9
    have HED := Lib.hid (show edgeB (pW x u x.p9 x.p11 x.p19) = false from by show (x.p5 && x.p8) = _; simp [H5.out, H8.out])
    refine wp_region_lit ?_
    refine wv (.pointer (some ⟨b6, 5, none⟩)) ?_
    (try simp only [Act.put, gA, gS, gZ, sA, sZ, sS])
    refine wv (.bool true) ?_ (hrun := by have q : w7.cell? ⟨b6, 5, none⟩ = some (.bool x.p5) := K7.out.cell (i := 2) rfl (by rfl); rw [H5.out] at q; go_simp)
    (try simp only [Act.put, gA, gS, gZ, sA, sZ, sS])
    refine wv (.bool true) ?_
    (try simp only [Act.put, gA, gS, gZ, sA, sZ, sS])
    refine wv (.pointer (some ⟨b6, 8, none⟩)) ?_
    (try simp only [Act.put, gA, gS, gZ, sA, sZ, sS])
    refine wv (.bool false) ?_ (hrun := by have q : w7.cell? ⟨b6, 8, none⟩ = some (.bool x.p8) := K7.out.cell (i := 2) rfl (by rfl); rw [H8.out] at q; go_simp)
    (try simp only [Act.put, gA, gS, gZ, sA, sZ, sS])
    refine wv (.bool false) ?_ (hrun := run_pick_yes (.tmp 21) (.tmp 23) (.const (.bool false)) _ rfl rfl rfl)
    (try simp only [Act.put, gA, gS, gZ, sA, sZ, sS])
    refine wv (.bool false) ?_
    (try simp only [Act.put, gA, gS, gZ, sA, sZ, sS])
    refine wpList_nil ?_
    go_upto_region 6 with fail
    refine wp_region_lit ?_
    refine wv (.agg (poA (pW x u x.p9 x.p11 x.p19))) ?_ (hrun := kb_all K7.out 2 rfl 42 _ rfl rfl Try.underlying42 rfl (size50))
    (try simp only [Act.put, gA, gS, gZ, sA, sZ, sS])
    refine wv (.agg (cfA ⟨0, 0, 0, dl, 0, 0⟩)) ?_ (hrun := kb_all K7.out 1 rfl 38 _ rfl rfl Try.underlying38 rfl (size34))
    (try simp only [Act.put, gA, gS, gZ, sA, sZ, sS])
    refine kb_call K7.out 10 #[.agg (poA (pW x u x.p9 x.p11 x.p19)), .agg (cfA ⟨0, 0, 0, dl, 0, 0⟩)] (.tuple #[.agg (poA (pW x u x.p9 x.p11 x.p19)), .bool false]) (by rfl) (by go_simp) (step_is (pW x u x.p9 x.p11 x.p19) (pW x u x.p9 x.p11 x.p19) ⟨0, 0, 0, dl, 0, 0⟩ false (by show stepP (pW x u x.p9 x.p11 x.p19) dl = _; unfold stepP; rw [if_pos HR.out, if_pos HS.out]) (by show (decide (x.p11 = (2 : Int)) && !decide (x.p11 = 2)) = _; simp [HS.out]) w7) ?_
    intro w8 hk
    have K8 := Lib.hid (show Kb w [(b1, lqA y, 26), (b3, cfA ⟨0, 0, 0, dl, 0, 0⟩, 38), (b6, poA (pW x u x.p9 x.p11 x.p19), 42)] w8 from hk)
    clear hk
    (try simp only [Act.put, gA, gS, gZ, sA, sZ, sS])
    refine wv (.tuple #[.agg (poA (pW x u x.p9 x.p11 x.p19)), .bool false]) ?_
    (try simp only [Act.put, gA, gS, gZ, sA, sZ, sS])
    refine wv (.agg (poA (pW x u x.p9 x.p11 x.p19))) ?_
    (try simp only [Act.put, gA, gS, gZ, sA, sZ, sS])
    refine wv (.bool false) ?_
    (try simp only [Act.put, gA, gS, gZ, sA, sZ, sS])
    refine kb_alloc K8.out 42 (nil21) rfl z50 (by rfl) ?_
    intro b9 w9 hb9 hk
    have K9 := Lib.hid (show Kb w [(b1, lqA y, 26), (b3, cfA ⟨0, 0, 0, dl, 0, 0⟩, 38), (b6, poA (pW x u x.p9 x.p11 x.p19), 42), (b9, nil21, 42)] w9 from hk)
    clear hk hb9
    (try simp only [Act.put, gA, gS, gZ, sA, sZ, sS])
    refine kb_row K9.out 3 rfl 42 _ _ (poA (pW x u x.p9 x.p11 x.p19)) rfl rfl rfl rfl (size50) (by rfl) (po_all _) ?_
    intro w10 hk
    have K10 := Lib.hid (show Kb w [(b1, lqA y, 26), (b3, cfA ⟨0, 0, 0, dl, 0, 0⟩, 38), (b6, poA (pW x u x.p9 x.p11 x.p19), 42), (b9, poA (pW x u x.p9 x.p11 x.p19), 42)] w10 from hk)
    clear hk
    (try simp only [Act.put, gA, gS, gZ, sA, sZ, sS])
    refine wv (.bool false) ?_
    (try simp only [Act.put, gA, gS, gZ, sA, sZ, sS])
    refine wpList_nil ?_
    go_upto_region 7 with fail
    refine wp_region_lit ?_
    refine wv (.agg (poA (pW x u x.p9 x.p11 x.p19))) ?_ (hrun := kb_all K10.out 2 rfl 42 _ rfl rfl Try.underlying42 rfl (size50))
    (try simp only [Act.put, gA, gS, gZ, sA, sZ, sS])
    refine kb_alloc K10.out 42 (nil21) rfl z50 (by rfl) ?_
    intro b11 w11 hb11 hk
    have K11 := Lib.hid (show Kb w [(b1, lqA y, 26), (b3, cfA ⟨0, 0, 0, dl, 0, 0⟩, 38), (b6, poA (pW x u x.p9 x.p11 x.p19), 42), (b9, poA (pW x u x.p9 x.p11 x.p19), 42), (b11, nil21, 42)] w11 from hk)
    clear hk hb11
    (try simp only [Act.put, gA, gS, gZ, sA, sZ, sS])
    refine kb_row K11.out 4 rfl 42 _ _ (poA (pW x u x.p9 x.p11 x.p19)) rfl rfl rfl rfl (size50) (by rfl) (po_all _) ?_
    intro w12 hk
    have K12 := Lib.hid (show Kb w [(b1, lqA y, 26), (b3, cfA ⟨0, 0, 0, dl, 0, 0⟩, 38), (b6, poA (pW x u x.p9 x.p11 x.p19), 42), (b9, poA (pW x u x.p9 x.p11 x.p19), 42), (b11, poA (pW x u x.p9 x.p11 x.p19), 42)] w12 from hk)
    clear hk
    (try simp only [Act.put, gA, gS, gZ, sA, sZ, sS])
    refine wpList_nil ?_
    go_upto_region 8 with fail
    refine wp_region_lit ?_
    refine wv (.pointer (some ⟨b6, 10, none⟩)) ?_
    (try simp only [Act.put, gA, gS, gZ, sA, sZ, sS])
    refine wv (.int .i64 x.p10) ?_ (hrun := by have q : w12.cell? ⟨b6, 10, none⟩ = some (.int .i64 x.p10) := K12.out.cell (i := 2) rfl (by rfl); go_simp)
    (try simp only [Act.put, gA, gS, gZ, sA, sZ, sS])
    refine wv (.bool true) ?_ (hrun := by have q := HR.out; go_simp)
    (try simp only [Act.put, gA, gS, gZ, sA, sZ, sS])
    refine wv (.bool true) ?_
    (try simp only [Act.put, gA, gS, gZ, sA, sZ, sS])
    refine wv (.pointer (some ⟨b6, 11, none⟩)) ?_
    (try simp only [Act.put, gA, gS, gZ, sA, sZ, sS])
    refine wv (.int .i64 x.p11) ?_ (hrun := by have q : w12.cell? ⟨b6, 11, none⟩ = some (.int .i64 x.p11) := K12.out.cell (i := 2) rfl (by rfl); go_simp)
    (try simp only [Act.put, gA, gS, gZ, sA, sZ, sS])
    refine wv (.bool false) ?_ (hrun := by have q := HS.out; go_simp)
    (try simp only [Act.put, gA, gS, gZ, sA, sZ, sS])
    refine wv (.bool false) ?_ (hrun := run_pick_yes (.tmp 35) (.tmp 38) (.const (.bool false)) _ rfl rfl rfl)
    (try simp only [Act.put, gA, gS, gZ, sA, sZ, sS])
    refine wpList_nil ?_
    go_upto_region 14 with fail
    refine wp_region_lit ?_
    refine wv (.agg (poA (pW x u x.p9 x.p11 x.p19))) ?_ (hrun := kb_all K12.out 3 rfl 42 _ rfl rfl Try.underlying42 rfl (size50))
    (try simp only [Act.put, gA, gS, gZ, sA, sZ, sS])
    refine wv (.agg (poA (pW x u x.p9 x.p11 x.p19))) ?_ (hrun := kb_all K12.out 4 rfl 42 _ rfl rfl Try.underlying42 rfl (size50))
    (try simp only [Act.put, gA, gS, gZ, sA, sZ, sS])
    refine wv (.bool false) ?_ (hrun := by have q := eq_po (pW x u x.p9 x.p11 x.p19); go_simp)
    (try simp only [Act.put, gA, gS, gZ, sA, sZ, sS])
    refine wv (.bool false) ?_
    (try simp only [Act.put, gA, gS, gZ, sA, sZ, sS])
    refine wv (.bool false) ?_
    (try simp only [Act.put, gA, gS, gZ, sA, sZ, sS])
    refine wv (.pointer (some ⟨b11, 11, none⟩)) ?_
    (try simp only [Act.put, gA, gS, gZ, sA, sZ, sS])
    refine wv (.int .i64 x.p11) ?_ (hrun := by have q : w12.cell? ⟨b11, 11, none⟩ = some (.int .i64 x.p11) := K12.out.cell (i := 4) rfl (by rfl); go_simp)
    (try simp only [Act.put, gA, gS, gZ, sA, sZ, sS])
    refine wv (.bool true) ?_ (hrun := by have q := HS.out; go_simp)
    (try simp only [Act.put, gA, gS, gZ, sA, sZ, sS])
    refine wv (.bool true) ?_
    (try simp only [Act.put, gA, gS, gZ, sA, sZ, sS])
    refine wv (.pointer (some ⟨b6, 11, none⟩)) ?_
    (try simp only [Act.put, gA, gS, gZ, sA, sZ, sS])
    refine wv (.int .i64 x.p11) ?_ (hrun := by have q : w12.cell? ⟨b6, 11, none⟩ = some (.int .i64 x.p11) := K12.out.cell (i := 2) rfl (by rfl); go_simp)
    (try simp only [Act.put, gA, gS, gZ, sA, sZ, sS])
    refine wv (.bool false) ?_ (hrun := by have q := HS.out; go_simp)
    (try simp only [Act.put, gA, gS, gZ, sA, sZ, sS])
    refine wv (.bool false) ?_ (hrun := run_pick_yes (.tmp 65) (.tmp 68) (.const (.bool false)) _ rfl rfl rfl)
    (try simp only [Act.put, gA, gS, gZ, sA, sZ, sS])
    refine wv (.bool false) ?_
    (try simp only [Act.put, gA, gS, gZ, sA, sZ, sS])
    refine wv (.bool false) ?_ (hrun := run_pick_no (.tmp 60) (.const (.bool true)) (.tmp 70) _ rfl rfl rfl)
    (try simp only [Act.put, gA, gS, gZ, sA, sZ, sS])
    refine wpList_nil ?_
    go_upto_region 16 with fail
    refine wp_region_lit ?_
    refine wv (.agg (poA (pW x u x.p9 x.p11 x.p19))) ?_ (hrun := kb_all K12.out 2 rfl 42 _ rfl rfl Try.underlying42 rfl (size50))
    (try simp only [Act.put, gA, gS, gZ, sA, sZ, sS])
    refine kb_call K12.out 11 #[.agg (poA (pW x u x.p9 x.p11 x.p19))] (.tuple #[.agg (poA (pW x u true 2 0)), .bool false]) (by rfl) (by go_simp) (agree_is (pW x u x.p9 x.p11 x.p19) (pW x u true 2 0) false (by unfold agreeP; rw [if_pos HR.out]) (by show (decide (2 = (2 : Int)) && !decide (x.p11 = 2)) = _; simp [HS.out]) w12) ?_
    intro w13 hk
    have K13 := Lib.hid (show Kb w [(b1, lqA y, 26), (b3, cfA ⟨0, 0, 0, dl, 0, 0⟩, 38), (b6, poA (pW x u x.p9 x.p11 x.p19), 42), (b9, poA (pW x u x.p9 x.p11 x.p19), 42), (b11, poA (pW x u x.p9 x.p11 x.p19), 42)] w13 from hk)
    clear hk
    (try simp only [Act.put, gA, gS, gZ, sA, sZ, sS])
    refine wv (.tuple #[.agg (poA (pW x u true 2 0)), .bool false]) ?_
    (try simp only [Act.put, gA, gS, gZ, sA, sZ, sS])
    refine wv (.agg (poA (pW x u true 2 0))) ?_
    (try simp only [Act.put, gA, gS, gZ, sA, sZ, sS])
    refine wv (.bool false) ?_
    (try simp only [Act.put, gA, gS, gZ, sA, sZ, sS])
    refine kb_alloc K13.out 42 (nil21) rfl z50 (by rfl) ?_
    intro b14 w14 hb14 hk
    have K14 := Lib.hid (show Kb w [(b1, lqA y, 26), (b3, cfA ⟨0, 0, 0, dl, 0, 0⟩, 38), (b6, poA (pW x u x.p9 x.p11 x.p19), 42), (b9, poA (pW x u x.p9 x.p11 x.p19), 42), (b11, poA (pW x u x.p9 x.p11 x.p19), 42), (b14, nil21, 42)] w14 from hk)
    clear hk hb14
    (try simp only [Act.put, gA, gS, gZ, sA, sZ, sS])
    refine kb_row K14.out 5 rfl 42 _ _ (poA (pW x u true 2 0)) rfl rfl rfl rfl (size50) (by rfl) (po_all _) ?_
    intro w15 hk
    have K15 := Lib.hid (show Kb w [(b1, lqA y, 26), (b3, cfA ⟨0, 0, 0, dl, 0, 0⟩, 38), (b6, poA (pW x u x.p9 x.p11 x.p19), 42), (b9, poA (pW x u x.p9 x.p11 x.p19), 42), (b11, poA (pW x u x.p9 x.p11 x.p19), 42), (b14, poA (pW x u true 2 0), 42)] w15 from hk)
    clear hk
    (try simp only [Act.put, gA, gS, gZ, sA, sZ, sS])
    refine wv (.bool false) ?_
    (try simp only [Act.put, gA, gS, gZ, sA, sZ, sS])
    refine wpList_nil ?_
    go_upto_region 17 with fail
    refine wp_region_lit ?_
    refine wv (.agg (poA (pW x u x.p9 x.p11 x.p19))) ?_ (hrun := kb_all K15.out 2 rfl 42 _ rfl rfl Try.underlying42 rfl (size50))
    (try simp only [Act.put, gA, gS, gZ, sA, sZ, sS])
    refine kb_row K15.out 4 rfl 42 _ _ (poA (pW x u x.p9 x.p11 x.p19)) rfl rfl rfl rfl (size50) (by rfl) (po_all _) ?_
    intro w16 hk
    have K16 := Lib.hid (show Kb w [(b1, lqA y, 26), (b3, cfA ⟨0, 0, 0, dl, 0, 0⟩, 38), (b6, poA (pW x u x.p9 x.p11 x.p19), 42), (b9, poA (pW x u x.p9 x.p11 x.p19), 42), (b11, poA (pW x u x.p9 x.p11 x.p19), 42), (b14, poA (pW x u true 2 0), 42)] w16 from hk)
    clear hk
    (try simp only [Act.put, gA, gS, gZ, sA, sZ, sS])
    refine wpList_nil ?_
    go_upto_region 18 with fail
    refine wp_region_lit ?_
    refine wv (.pointer (some ⟨b6, 10, none⟩)) ?_
    (try simp only [Act.put, gA, gS, gZ, sA, sZ, sS])
    refine wv (.int .i64 x.p10) ?_ (hrun := by have q : w16.cell? ⟨b6, 10, none⟩ = some (.int .i64 x.p10) := K16.out.cell (i := 2) rfl (by rfl); go_simp)
    (try simp only [Act.put, gA, gS, gZ, sA, sZ, sS])
    refine wv (.bool true) ?_ (hrun := by have q := HR.out; go_simp)
    (try simp only [Act.put, gA, gS, gZ, sA, sZ, sS])
    refine wpList_nil ?_
    go_upto_region 19 with fail
    refine wp_region_lit ?_
    refine wv (.pointer (some ⟨b11, 9, none⟩)) ?_
    (try simp only [Act.put, gA, gS, gZ, sA, sZ, sS])
    refine kb_set K16.out 4 rfl 4 _ _ 9 (.bool true) rfl (by rfl) rfl rfl (kb_run_set K16.out (i := 4) rfl 4 9 (.bool x.p9) (.bool true) (by rfl) (fun W h1 h2 => by go_simp)) (poA (pW x u true x.p11 x.p19)) (by kernel_rfl) ?_
    intro w17 hk
    have K17 := Lib.hid (show Kb w [(b1, lqA y, 26), (b3, cfA ⟨0, 0, 0, dl, 0, 0⟩, 38), (b6, poA (pW x u x.p9 x.p11 x.p19), 42), (b9, poA (pW x u x.p9 x.p11 x.p19), 42), (b11, poA (pW x u true x.p11 x.p19), 42), (b14, poA (pW x u true 2 0), 42)] w17 from hk)
    clear hk
    (try simp only [Act.put, gA, gS, gZ, sA, sZ, sS])
    refine wv (.pointer (some ⟨b11, 11, none⟩)) ?_
    (try simp only [Act.put, gA, gS, gZ, sA, sZ, sS])
    refine kb_set K17.out 4 rfl 3 _ _ 11 (.int .i64 2) rfl (by rfl) rfl rfl (kb_run_set K17.out (i := 4) rfl 3 11 (.int .i64 x.p11) (.int .i64 2) (by rfl) (fun W h1 h2 => by go_simp)) (poA (pW x u true 2 x.p19)) (by kernel_rfl) ?_
    intro w18 hk
    have K18 := Lib.hid (show Kb w [(b1, lqA y, 26), (b3, cfA ⟨0, 0, 0, dl, 0, 0⟩, 38), (b6, poA (pW x u x.p9 x.p11 x.p19), 42), (b9, poA (pW x u x.p9 x.p11 x.p19), 42), (b11, poA (pW x u true 2 x.p19), 42), (b14, poA (pW x u true 2 0), 42)] w18 from hk)
    clear hk
    (try simp only [Act.put, gA, gS, gZ, sA, sZ, sS])
    refine wv (.pointer (some ⟨b11, 19, none⟩)) ?_
    (try simp only [Act.put, gA, gS, gZ, sA, sZ, sS])
    refine kb_set K18.out 4 rfl 3 _ _ 19 (.int .i64 0) rfl (by rfl) rfl rfl (kb_run_set K18.out (i := 4) rfl 3 19 (.int .i64 x.p19) (.int .i64 0) (by rfl) (fun W h1 h2 => by go_simp)) (poA (pW x u true 2 0)) (by kernel_rfl) ?_
    intro w19 hk
    have K19 := Lib.hid (show Kb w [(b1, lqA y, 26), (b3, cfA ⟨0, 0, 0, dl, 0, 0⟩, 38), (b6, poA (pW x u x.p9 x.p11 x.p19), 42), (b9, poA (pW x u x.p9 x.p11 x.p19), 42), (b11, poA (pW x u true 2 0), 42), (b14, poA (pW x u true 2 0), 42)] w19 from hk)
    clear hk
    (try simp only [Act.put, gA, gS, gZ, sA, sZ, sS])
    refine wpList_nil ?_
    go_upto_region 20 with fail
    refine wp_region_lit ?_
    refine wv (.agg (poA (pW x u true 2 0))) ?_ (hrun := kb_all K19.out 5 rfl 42 _ rfl rfl Try.underlying42 rfl (size50))
    (try simp only [Act.put, gA, gS, gZ, sA, sZ, sS])
    refine wv (.agg (poA (pW x u true 2 0))) ?_ (hrun := kb_all K19.out 4 rfl 42 _ rfl rfl Try.underlying42 rfl (size50))
    (try simp only [Act.put, gA, gS, gZ, sA, sZ, sS])
    refine wv (.bool false) ?_ (hrun := by have q := eq_po (pW x u true 2 0); go_simp)
    (try simp only [Act.put, gA, gS, gZ, sA, sZ, sS])
    refine wv (.bool false) ?_
    (try simp only [Act.put, gA, gS, gZ, sA, sZ, sS])
    refine wv (.bool false) ?_
    (try simp only [Act.put, gA, gS, gZ, sA, sZ, sS])
    refine wv (.pointer (some ⟨b11, 11, none⟩)) ?_
    (try simp only [Act.put, gA, gS, gZ, sA, sZ, sS])
    refine wv (.int .i64 2) ?_ (hrun := by have q : w19.cell? ⟨b11, 11, none⟩ = some (.int .i64 2) := K19.out.cell (i := 4) rfl (by rfl); go_simp)
    (try simp only [Act.put, gA, gS, gZ, sA, sZ, sS])
    refine wv (.bool true) ?_
    (try simp only [Act.put, gA, gS, gZ, sA, sZ, sS])
    refine wv (.bool true) ?_
    (try simp only [Act.put, gA, gS, gZ, sA, sZ, sS])
    refine wv (.pointer (some ⟨b6, 11, none⟩)) ?_
    (try simp only [Act.put, gA, gS, gZ, sA, sZ, sS])
    refine wv (.int .i64 x.p11) ?_ (hrun := by have q : w19.cell? ⟨b6, 11, none⟩ = some (.int .i64 x.p11) := K19.out.cell (i := 2) rfl (by rfl); go_simp)
    (try simp only [Act.put, gA, gS, gZ, sA, sZ, sS])
    refine wv (.bool false) ?_ (hrun := by have q := HS.out; go_simp)
    (try simp only [Act.put, gA, gS, gZ, sA, sZ, sS])
    refine wv (.bool false) ?_ (hrun := run_pick_yes (.tmp 92) (.tmp 95) (.const (.bool false)) _ rfl rfl rfl)
    (try simp only [Act.put, gA, gS, gZ, sA, sZ, sS])
    refine wv (.bool false) ?_
    (try simp only [Act.put, gA, gS, gZ, sA, sZ, sS])
    refine wv (.bool false) ?_ (hrun := run_pick_no (.tmp 87) (.const (.bool true)) (.tmp 97) _ rfl rfl rfl)
    (try simp only [Act.put, gA, gS, gZ, sA, sZ, sS])
    refine wpList_nil ?_
    go_upto_region 22 with fail
    refine wp_region_lit ?_
    refine wv (.agg (poA (pW x u x.p9 x.p11 x.p19))) ?_ (hrun := kb_all K19.out 2 rfl 42 _ rfl rfl Try.underlying42 rfl (size50))
    (try simp only [Act.put, gA, gS, gZ, sA, sZ, sS])
    refine wv (.agg (cfA ⟨0, 0, 0, dl, 0, 0⟩)) ?_ (hrun := kb_all K19.out 1 rfl 38 _ rfl rfl Try.underlying38 rfl (size34))
    (try simp only [Act.put, gA, gS, gZ, sA, sZ, sS])
    refine kb_call K19.out 12 #[.agg (poA (pW x u x.p9 x.p11 x.p19)), .agg (cfA ⟨0, 0, 0, dl, 0, 0⟩)] (.agg (poA (pW x u x.p9 x.p11 x.p19))) (by rfl) (by go_simp) (block_is (pW x u x.p9 x.p11 x.p19) (pW x u x.p9 x.p11 x.p19) ⟨0, 0, 0, dl, 0, 0⟩ (by unfold blockP; rw [if_neg (fun h => Bool.noConfusion (H9.out.symm.trans h.2.2.1))]) w19) ?_
    intro w20 hk
    have K20 := Lib.hid (show Kb w [(b1, lqA y, 26), (b3, cfA ⟨0, 0, 0, dl, 0, 0⟩, 38), (b6, poA (pW x u x.p9 x.p11 x.p19), 42), (b9, poA (pW x u x.p9 x.p11 x.p19), 42), (b11, poA (pW x u true 2 0), 42), (b14, poA (pW x u true 2 0), 42)] w20 from hk)
    clear hk
    (try simp only [Act.put, gA, gS, gZ, sA, sZ, sS])
    refine kb_alloc K20.out 42 (nil21) rfl z50 (by rfl) ?_
    intro b21 w21 hb21 hk
    have K21 := Lib.hid (show Kb w [(b1, lqA y, 26), (b3, cfA ⟨0, 0, 0, dl, 0, 0⟩, 38), (b6, poA (pW x u x.p9 x.p11 x.p19), 42), (b9, poA (pW x u x.p9 x.p11 x.p19), 42), (b11, poA (pW x u true 2 0), 42), (b14, poA (pW x u true 2 0), 42), (b21, nil21, 42)] w21 from hk)
    clear hk hb21
    (try simp only [Act.put, gA, gS, gZ, sA, sZ, sS])
    refine kb_row K21.out 6 rfl 42 _ _ (poA (pW x u x.p9 x.p11 x.p19)) rfl rfl rfl rfl (size50) (by rfl) (po_all _) ?_
    intro w22 hk
    have K22 := Lib.hid (show Kb w [(b1, lqA y, 26), (b3, cfA ⟨0, 0, 0, dl, 0, 0⟩, 38), (b6, poA (pW x u x.p9 x.p11 x.p19), 42), (b9, poA (pW x u x.p9 x.p11 x.p19), 42), (b11, poA (pW x u true 2 0), 42), (b14, poA (pW x u true 2 0), 42), (b21, poA (pW x u x.p9 x.p11 x.p19), 42)] w22 from hk)
    clear hk
    (try simp only [Act.put, gA, gS, gZ, sA, sZ, sS])
    refine wpList_nil ?_
    go_upto_region 23 with fail
    refine wp_region_lit ?_
    refine wv (.agg (poA (pW x u x.p9 x.p11 x.p19))) ?_ (hrun := kb_all K22.out 2 rfl 42 _ rfl rfl Try.underlying42 rfl (size50))
    (try simp only [Act.put, gA, gS, gZ, sA, sZ, sS])
    refine kb_row K22.out 4 rfl 42 _ _ (poA (pW x u x.p9 x.p11 x.p19)) rfl rfl rfl rfl (size50) (by rfl) (po_all _) ?_
    intro w23 hk
    have K23 := Lib.hid (show Kb w [(b1, lqA y, 26), (b3, cfA ⟨0, 0, 0, dl, 0, 0⟩, 38), (b6, poA (pW x u x.p9 x.p11 x.p19), 42), (b9, poA (pW x u x.p9 x.p11 x.p19), 42), (b11, poA (pW x u x.p9 x.p11 x.p19), 42), (b14, poA (pW x u true 2 0), 42), (b21, poA (pW x u x.p9 x.p11 x.p19), 42)] w23 from hk)
    clear hk
    (try simp only [Act.put, gA, gS, gZ, sA, sZ, sS])
    refine wpList_nil ?_
    go_upto_region 24 with fail
    refine wp_region_lit ?_
    refine wv (.pointer (some ⟨b6, 10, none⟩)) ?_
    (try simp only [Act.put, gA, gS, gZ, sA, sZ, sS])
    refine wv (.int .i64 x.p10) ?_ (hrun := by have q : w23.cell? ⟨b6, 10, none⟩ = some (.int .i64 x.p10) := K23.out.cell (i := 2) rfl (by rfl); go_simp)
    (try simp only [Act.put, gA, gS, gZ, sA, sZ, sS])
    refine wv (.bool true) ?_ (hrun := by have q := HR.out; go_simp)
    (try simp only [Act.put, gA, gS, gZ, sA, sZ, sS])
    refine wv (.bool true) ?_
    (try simp only [Act.put, gA, gS, gZ, sA, sZ, sS])
    refine wv (.bool false) ?_
    (try simp only [Act.put, gA, gS, gZ, sA, sZ, sS])
    refine wv (.bool true) ?_
    (try simp only [Act.put, gA, gS, gZ, sA, sZ, sS])
    refine wv (.bool true) ?_ (hrun := run_pick_yes (.tmp 106) (.tmp 108) (.const (.bool false)) _ rfl rfl rfl)
    (try simp only [Act.put, gA, gS, gZ, sA, sZ, sS])
    refine wv (.bool true) ?_
    (try simp only [Act.put, gA, gS, gZ, sA, sZ, sS])
    refine wv (.pointer (some ⟨b6, 9, none⟩)) ?_
    (try simp only [Act.put, gA, gS, gZ, sA, sZ, sS])
    refine wv (.bool true) ?_ (hrun := by have q : w23.cell? ⟨b6, 9, none⟩ = some (.bool x.p9) := K23.out.cell (i := 2) rfl (by rfl); rw [H9.out] at q; go_simp)
    (try simp only [Act.put, gA, gS, gZ, sA, sZ, sS])
    refine wv (.bool false) ?_
    (try simp only [Act.put, gA, gS, gZ, sA, sZ, sS])
    refine wv (.bool false) ?_ (hrun := run_pick_yes (.tmp 110) (.tmp 113) (.const (.bool false)) _ rfl rfl rfl)
    (try simp only [Act.put, gA, gS, gZ, sA, sZ, sS])
    refine wv (.bool false) ?_
    (try simp only [Act.put, gA, gS, gZ, sA, sZ, sS])
    refine wpList_skip (by kernel_rfl) ?_
    (try simp only [Act.put, gA, gS, gZ, sA, sZ, sS])
    refine wpList_skip (by kernel_rfl) ?_
    (try simp only [Act.put, gA, gS, gZ, sA, sZ, sS])
    refine wpList_skip (by kernel_rfl) ?_
    (try simp only [Act.put, gA, gS, gZ, sA, sZ, sS])
    refine wv (.bool false) ?_ (hrun := run_pick_no (.tmp 115) (.tmp 118) (.const (.bool false)) _ rfl rfl rfl)
    (try simp only [Act.put, gA, gS, gZ, sA, sZ, sS])
    refine wpList_nil ?_
    go_upto_region 26 with fail
    refine wp_region_lit ?_
    refine wv (.agg (poA (pW x u x.p9 x.p11 x.p19))) ?_ (hrun := kb_all K23.out 6 rfl 42 _ rfl rfl Try.underlying42 rfl (size50))
    (try simp only [Act.put, gA, gS, gZ, sA, sZ, sS])
    refine wv (.agg (poA (pW x u x.p9 x.p11 x.p19))) ?_ (hrun := kb_all K23.out 4 rfl 42 _ rfl rfl Try.underlying42 rfl (size50))
    (try simp only [Act.put, gA, gS, gZ, sA, sZ, sS])
    refine wv (.bool true) ?_ (hrun := by have q := eq_po (pW x u x.p9 x.p11 x.p19); go_simp)
    (try simp only [Act.put, gA, gS, gZ, sA, sZ, sS])
    refine wv (.bool true) ?_
    (try simp only [Act.put, gA, gS, gZ, sA, sZ, sS])
    refine wv (.agg (poA (pW x u x.p9 x.p11 x.p19))) ?_ (hrun := kb_all K23.out 2 rfl 42 _ rfl rfl Try.underlying42 rfl (size50))
    (try simp only [Act.put, gA, gS, gZ, sA, sZ, sS])
    refine kb_call K23.out 13 #[.agg (poA (pW x u x.p9 x.p11 x.p19))] (.bool false) (by rfl) (by go_simp) (edge_is (pW x u x.p9 x.p11 x.p19) false HED.out w23) ?_
    intro w24 hk
    have K24 := Lib.hid (show Kb w [(b1, lqA y, 26), (b3, cfA ⟨0, 0, 0, dl, 0, 0⟩, 38), (b6, poA (pW x u x.p9 x.p11 x.p19), 42), (b9, poA (pW x u x.p9 x.p11 x.p19), 42), (b11, poA (pW x u x.p9 x.p11 x.p19), 42), (b14, poA (pW x u true 2 0), 42), (b21, poA (pW x u x.p9 x.p11 x.p19), 42)] w24 from hk)
    clear hk
    (try simp only [Act.put, gA, gS, gZ, sA, sZ, sS])
    refine wv (.bool false) ?_
    (try simp only [Act.put, gA, gS, gZ, sA, sZ, sS])
    refine wv (.bool true) ?_
    (try simp only [Act.put, gA, gS, gZ, sA, sZ, sS])
    refine wv (.bool true) ?_ (hrun := run_pick_yes (.tmp 126) (.tmp 130) (.const (.bool false)) _ rfl rfl rfl)
    (try simp only [Act.put, gA, gS, gZ, sA, sZ, sS])
    refine wv (.bool true) ?_
    (try simp only [Act.put, gA, gS, gZ, sA, sZ, sS])
    refine wpList_nil ?_
    go_wp2_with fail
    go_ret
    exact ⟨ret_bool (rfl), K24.out.below⟩
  case inr =>
   have H8 := Lib.hid h8
   clear h8
   have HED := Lib.hid (show edgeB (pW x u x.p9 x.p11 x.p19) = true from by show (x.p5 && x.p8) = _; simp [H5.out, H8.out])
   refine wp_region_lit ?_
   refine wv (.pointer (some ⟨b6, 5, none⟩)) ?_
   (try simp only [Act.put, gA, gS, gZ, sA, sZ, sS])
   refine wv (.bool true) ?_ (hrun := by have q : w7.cell? ⟨b6, 5, none⟩ = some (.bool x.p5) := K7.out.cell (i := 2) rfl (by rfl); rw [H5.out] at q; go_simp)
   (try simp only [Act.put, gA, gS, gZ, sA, sZ, sS])
   refine wv (.bool true) ?_
   (try simp only [Act.put, gA, gS, gZ, sA, sZ, sS])
   refine wv (.pointer (some ⟨b6, 8, none⟩)) ?_
   (try simp only [Act.put, gA, gS, gZ, sA, sZ, sS])
   refine wv (.bool true) ?_ (hrun := by have q : w7.cell? ⟨b6, 8, none⟩ = some (.bool x.p8) := K7.out.cell (i := 2) rfl (by rfl); rw [H8.out] at q; go_simp)
   (try simp only [Act.put, gA, gS, gZ, sA, sZ, sS])
   refine wv (.bool true) ?_ (hrun := run_pick_yes (.tmp 21) (.tmp 23) (.const (.bool false)) _ rfl rfl rfl)
   (try simp only [Act.put, gA, gS, gZ, sA, sZ, sS])
   refine wv (.bool true) ?_
   (try simp only [Act.put, gA, gS, gZ, sA, sZ, sS])
   refine wpList_nil ?_
   go_upto_region 6 with fail
   refine wp_region_lit ?_
   refine wv (.agg (poA (pW x u x.p9 x.p11 x.p19))) ?_ (hrun := kb_all K7.out 2 rfl 42 _ rfl rfl Try.underlying42 rfl (size50))
   (try simp only [Act.put, gA, gS, gZ, sA, sZ, sS])
   refine wv (.agg (cfA ⟨0, 0, 0, dl, 0, 0⟩)) ?_ (hrun := kb_all K7.out 1 rfl 38 _ rfl rfl Try.underlying38 rfl (size34))
   (try simp only [Act.put, gA, gS, gZ, sA, sZ, sS])
   refine kb_call K7.out 10 #[.agg (poA (pW x u x.p9 x.p11 x.p19)), .agg (cfA ⟨0, 0, 0, dl, 0, 0⟩)] (.tuple #[.agg (poA (pW x u x.p9 x.p11 x.p19)), .bool false]) (by rfl) (by go_simp) (step_is (pW x u x.p9 x.p11 x.p19) (pW x u x.p9 x.p11 x.p19) ⟨0, 0, 0, dl, 0, 0⟩ false (by show stepP (pW x u x.p9 x.p11 x.p19) dl = _; unfold stepP; rw [if_pos HR.out, if_pos HS.out]) (by show (decide (x.p11 = (2 : Int)) && !decide (x.p11 = 2)) = _; simp [HS.out]) w7) ?_
   intro w8 hk
   have K8 := Lib.hid (show Kb w [(b1, lqA y, 26), (b3, cfA ⟨0, 0, 0, dl, 0, 0⟩, 38), (b6, poA (pW x u x.p9 x.p11 x.p19), 42)] w8 from hk)
   clear hk
   (try simp only [Act.put, gA, gS, gZ, sA, sZ, sS])
   refine wv (.tuple #[.agg (poA (pW x u x.p9 x.p11 x.p19)), .bool false]) ?_
   (try simp only [Act.put, gA, gS, gZ, sA, sZ, sS])
   refine wv (.agg (poA (pW x u x.p9 x.p11 x.p19))) ?_
   (try simp only [Act.put, gA, gS, gZ, sA, sZ, sS])
   refine wv (.bool false) ?_
   (try simp only [Act.put, gA, gS, gZ, sA, sZ, sS])
   refine kb_alloc K8.out 42 (nil21) rfl z50 (by rfl) ?_
   intro b9 w9 hb9 hk
   have K9 := Lib.hid (show Kb w [(b1, lqA y, 26), (b3, cfA ⟨0, 0, 0, dl, 0, 0⟩, 38), (b6, poA (pW x u x.p9 x.p11 x.p19), 42), (b9, nil21, 42)] w9 from hk)
   clear hk hb9
   (try simp only [Act.put, gA, gS, gZ, sA, sZ, sS])
   refine kb_row K9.out 3 rfl 42 _ _ (poA (pW x u x.p9 x.p11 x.p19)) rfl rfl rfl rfl (size50) (by rfl) (po_all _) ?_
   intro w10 hk
   have K10 := Lib.hid (show Kb w [(b1, lqA y, 26), (b3, cfA ⟨0, 0, 0, dl, 0, 0⟩, 38), (b6, poA (pW x u x.p9 x.p11 x.p19), 42), (b9, poA (pW x u x.p9 x.p11 x.p19), 42)] w10 from hk)
   clear hk
   (try simp only [Act.put, gA, gS, gZ, sA, sZ, sS])
   refine wv (.bool false) ?_
   (try simp only [Act.put, gA, gS, gZ, sA, sZ, sS])
   refine wpList_nil ?_
   go_upto_region 7 with fail
   refine wp_region_lit ?_
   refine wv (.agg (poA (pW x u x.p9 x.p11 x.p19))) ?_ (hrun := kb_all K10.out 2 rfl 42 _ rfl rfl Try.underlying42 rfl (size50))
   (try simp only [Act.put, gA, gS, gZ, sA, sZ, sS])
   refine kb_alloc K10.out 42 (nil21) rfl z50 (by rfl) ?_
   intro b11 w11 hb11 hk
   have K11 := Lib.hid (show Kb w [(b1, lqA y, 26), (b3, cfA ⟨0, 0, 0, dl, 0, 0⟩, 38), (b6, poA (pW x u x.p9 x.p11 x.p19), 42), (b9, poA (pW x u x.p9 x.p11 x.p19), 42), (b11, nil21, 42)] w11 from hk)
   clear hk hb11
   (try simp only [Act.put, gA, gS, gZ, sA, sZ, sS])
   refine kb_row K11.out 4 rfl 42 _ _ (poA (pW x u x.p9 x.p11 x.p19)) rfl rfl rfl rfl (size50) (by rfl) (po_all _) ?_
   intro w12 hk
   have K12 := Lib.hid (show Kb w [(b1, lqA y, 26), (b3, cfA ⟨0, 0, 0, dl, 0, 0⟩, 38), (b6, poA (pW x u x.p9 x.p11 x.p19), 42), (b9, poA (pW x u x.p9 x.p11 x.p19), 42), (b11, poA (pW x u x.p9 x.p11 x.p19), 42)] w12 from hk)
   clear hk
   (try simp only [Act.put, gA, gS, gZ, sA, sZ, sS])
   refine wpList_nil ?_
   go_upto_region 8 with fail
   refine wp_region_lit ?_
   refine wv (.pointer (some ⟨b6, 10, none⟩)) ?_
   (try simp only [Act.put, gA, gS, gZ, sA, sZ, sS])
   refine wv (.int .i64 x.p10) ?_ (hrun := by have q : w12.cell? ⟨b6, 10, none⟩ = some (.int .i64 x.p10) := K12.out.cell (i := 2) rfl (by rfl); go_simp)
   (try simp only [Act.put, gA, gS, gZ, sA, sZ, sS])
   refine wv (.bool true) ?_ (hrun := by have q := HR.out; go_simp)
   (try simp only [Act.put, gA, gS, gZ, sA, sZ, sS])
   refine wv (.bool true) ?_
   (try simp only [Act.put, gA, gS, gZ, sA, sZ, sS])
   refine wv (.pointer (some ⟨b6, 11, none⟩)) ?_
   (try simp only [Act.put, gA, gS, gZ, sA, sZ, sS])
   refine wv (.int .i64 x.p11) ?_ (hrun := by have q : w12.cell? ⟨b6, 11, none⟩ = some (.int .i64 x.p11) := K12.out.cell (i := 2) rfl (by rfl); go_simp)
   (try simp only [Act.put, gA, gS, gZ, sA, sZ, sS])
   refine wv (.bool false) ?_ (hrun := by have q := HS.out; go_simp)
   (try simp only [Act.put, gA, gS, gZ, sA, sZ, sS])
   refine wv (.bool false) ?_ (hrun := run_pick_yes (.tmp 35) (.tmp 38) (.const (.bool false)) _ rfl rfl rfl)
   (try simp only [Act.put, gA, gS, gZ, sA, sZ, sS])
   refine wpList_nil ?_
   go_upto_region 14 with fail
   refine wp_region_lit ?_
   refine wv (.agg (poA (pW x u x.p9 x.p11 x.p19))) ?_ (hrun := kb_all K12.out 3 rfl 42 _ rfl rfl Try.underlying42 rfl (size50))
   (try simp only [Act.put, gA, gS, gZ, sA, sZ, sS])
   refine wv (.agg (poA (pW x u x.p9 x.p11 x.p19))) ?_ (hrun := kb_all K12.out 4 rfl 42 _ rfl rfl Try.underlying42 rfl (size50))
   (try simp only [Act.put, gA, gS, gZ, sA, sZ, sS])
   refine wv (.bool false) ?_ (hrun := by have q := eq_po (pW x u x.p9 x.p11 x.p19); go_simp)
   (try simp only [Act.put, gA, gS, gZ, sA, sZ, sS])
   refine wv (.bool false) ?_
   (try simp only [Act.put, gA, gS, gZ, sA, sZ, sS])
   refine wv (.bool false) ?_
   (try simp only [Act.put, gA, gS, gZ, sA, sZ, sS])
   refine wv (.pointer (some ⟨b11, 11, none⟩)) ?_
   (try simp only [Act.put, gA, gS, gZ, sA, sZ, sS])
   refine wv (.int .i64 x.p11) ?_ (hrun := by have q : w12.cell? ⟨b11, 11, none⟩ = some (.int .i64 x.p11) := K12.out.cell (i := 4) rfl (by rfl); go_simp)
   (try simp only [Act.put, gA, gS, gZ, sA, sZ, sS])
   refine wv (.bool true) ?_ (hrun := by have q := HS.out; go_simp)
   (try simp only [Act.put, gA, gS, gZ, sA, sZ, sS])
   refine wv (.bool true) ?_
   (try simp only [Act.put, gA, gS, gZ, sA, sZ, sS])
   refine wv (.pointer (some ⟨b6, 11, none⟩)) ?_
   (try simp only [Act.put, gA, gS, gZ, sA, sZ, sS])
   refine wv (.int .i64 x.p11) ?_ (hrun := by have q : w12.cell? ⟨b6, 11, none⟩ = some (.int .i64 x.p11) := K12.out.cell (i := 2) rfl (by rfl); go_simp)
   (try simp only [Act.put, gA, gS, gZ, sA, sZ, sS])
   refine wv (.bool false) ?_ (hrun := by have q := HS.out; go_simp)
   (try simp only [Act.put, gA, gS, gZ, sA, sZ, sS])
   refine wv (.bool false) ?_ (hrun := run_pick_yes (.tmp 65) (.tmp 68) (.const (.bool false)) _ rfl rfl rfl)
   (try simp only [Act.put, gA, gS, gZ, sA, sZ, sS])
   refine wv (.bool false) ?_
   (try simp only [Act.put, gA, gS, gZ, sA, sZ, sS])
   refine wv (.bool false) ?_ (hrun := run_pick_no (.tmp 60) (.const (.bool true)) (.tmp 70) _ rfl rfl rfl)
   (try simp only [Act.put, gA, gS, gZ, sA, sZ, sS])
   refine wpList_nil ?_
   go_upto_region 16 with fail
   refine wp_region_lit ?_
   refine wv (.agg (poA (pW x u x.p9 x.p11 x.p19))) ?_ (hrun := kb_all K12.out 2 rfl 42 _ rfl rfl Try.underlying42 rfl (size50))
   (try simp only [Act.put, gA, gS, gZ, sA, sZ, sS])
   refine kb_call K12.out 11 #[.agg (poA (pW x u x.p9 x.p11 x.p19))] (.tuple #[.agg (poA (pW x u true 2 0)), .bool false]) (by rfl) (by go_simp) (agree_is (pW x u x.p9 x.p11 x.p19) (pW x u true 2 0) false (by unfold agreeP; rw [if_pos HR.out]) (by show (decide (2 = (2 : Int)) && !decide (x.p11 = 2)) = _; simp [HS.out]) w12) ?_
   intro w13 hk
   have K13 := Lib.hid (show Kb w [(b1, lqA y, 26), (b3, cfA ⟨0, 0, 0, dl, 0, 0⟩, 38), (b6, poA (pW x u x.p9 x.p11 x.p19), 42), (b9, poA (pW x u x.p9 x.p11 x.p19), 42), (b11, poA (pW x u x.p9 x.p11 x.p19), 42)] w13 from hk)
   clear hk
   (try simp only [Act.put, gA, gS, gZ, sA, sZ, sS])
   refine wv (.tuple #[.agg (poA (pW x u true 2 0)), .bool false]) ?_
   (try simp only [Act.put, gA, gS, gZ, sA, sZ, sS])
   refine wv (.agg (poA (pW x u true 2 0))) ?_
   (try simp only [Act.put, gA, gS, gZ, sA, sZ, sS])
   refine wv (.bool false) ?_
   (try simp only [Act.put, gA, gS, gZ, sA, sZ, sS])
   refine kb_alloc K13.out 42 (nil21) rfl z50 (by rfl) ?_
   intro b14 w14 hb14 hk
   have K14 := Lib.hid (show Kb w [(b1, lqA y, 26), (b3, cfA ⟨0, 0, 0, dl, 0, 0⟩, 38), (b6, poA (pW x u x.p9 x.p11 x.p19), 42), (b9, poA (pW x u x.p9 x.p11 x.p19), 42), (b11, poA (pW x u x.p9 x.p11 x.p19), 42), (b14, nil21, 42)] w14 from hk)
   clear hk hb14
   (try simp only [Act.put, gA, gS, gZ, sA, sZ, sS])
   refine kb_row K14.out 5 rfl 42 _ _ (poA (pW x u true 2 0)) rfl rfl rfl rfl (size50) (by rfl) (po_all _) ?_
   intro w15 hk
   have K15 := Lib.hid (show Kb w [(b1, lqA y, 26), (b3, cfA ⟨0, 0, 0, dl, 0, 0⟩, 38), (b6, poA (pW x u x.p9 x.p11 x.p19), 42), (b9, poA (pW x u x.p9 x.p11 x.p19), 42), (b11, poA (pW x u x.p9 x.p11 x.p19), 42), (b14, poA (pW x u true 2 0), 42)] w15 from hk)
   clear hk
   (try simp only [Act.put, gA, gS, gZ, sA, sZ, sS])
   refine wv (.bool false) ?_
   (try simp only [Act.put, gA, gS, gZ, sA, sZ, sS])
   refine wpList_nil ?_
   go_upto_region 17 with fail
   refine wp_region_lit ?_
   refine wv (.agg (poA (pW x u x.p9 x.p11 x.p19))) ?_ (hrun := kb_all K15.out 2 rfl 42 _ rfl rfl Try.underlying42 rfl (size50))
   (try simp only [Act.put, gA, gS, gZ, sA, sZ, sS])
   refine kb_row K15.out 4 rfl 42 _ _ (poA (pW x u x.p9 x.p11 x.p19)) rfl rfl rfl rfl (size50) (by rfl) (po_all _) ?_
   intro w16 hk
   have K16 := Lib.hid (show Kb w [(b1, lqA y, 26), (b3, cfA ⟨0, 0, 0, dl, 0, 0⟩, 38), (b6, poA (pW x u x.p9 x.p11 x.p19), 42), (b9, poA (pW x u x.p9 x.p11 x.p19), 42), (b11, poA (pW x u x.p9 x.p11 x.p19), 42), (b14, poA (pW x u true 2 0), 42)] w16 from hk)
   clear hk
   (try simp only [Act.put, gA, gS, gZ, sA, sZ, sS])
   refine wpList_nil ?_
   go_upto_region 18 with fail
   refine wp_region_lit ?_
   refine wv (.pointer (some ⟨b6, 10, none⟩)) ?_
   (try simp only [Act.put, gA, gS, gZ, sA, sZ, sS])
   refine wv (.int .i64 x.p10) ?_ (hrun := by have q : w16.cell? ⟨b6, 10, none⟩ = some (.int .i64 x.p10) := K16.out.cell (i := 2) rfl (by rfl); go_simp)
   (try simp only [Act.put, gA, gS, gZ, sA, sZ, sS])
   refine wv (.bool true) ?_ (hrun := by have q := HR.out; go_simp)
   (try simp only [Act.put, gA, gS, gZ, sA, sZ, sS])
   refine wpList_nil ?_
   go_upto_region 19 with fail
   refine wp_region_lit ?_
   refine wv (.pointer (some ⟨b11, 9, none⟩)) ?_
   (try simp only [Act.put, gA, gS, gZ, sA, sZ, sS])
   refine kb_set K16.out 4 rfl 4 _ _ 9 (.bool true) rfl (by rfl) rfl rfl (kb_run_set K16.out (i := 4) rfl 4 9 (.bool x.p9) (.bool true) (by rfl) (fun W h1 h2 => by go_simp)) (poA (pW x u true x.p11 x.p19)) (by kernel_rfl) ?_
   intro w17 hk
   have K17 := Lib.hid (show Kb w [(b1, lqA y, 26), (b3, cfA ⟨0, 0, 0, dl, 0, 0⟩, 38), (b6, poA (pW x u x.p9 x.p11 x.p19), 42), (b9, poA (pW x u x.p9 x.p11 x.p19), 42), (b11, poA (pW x u true x.p11 x.p19), 42), (b14, poA (pW x u true 2 0), 42)] w17 from hk)
   clear hk
   (try simp only [Act.put, gA, gS, gZ, sA, sZ, sS])
   refine wv (.pointer (some ⟨b11, 11, none⟩)) ?_
   (try simp only [Act.put, gA, gS, gZ, sA, sZ, sS])
   refine kb_set K17.out 4 rfl 3 _ _ 11 (.int .i64 2) rfl (by rfl) rfl rfl (kb_run_set K17.out (i := 4) rfl 3 11 (.int .i64 x.p11) (.int .i64 2) (by rfl) (fun W h1 h2 => by go_simp)) (poA (pW x u true 2 x.p19)) (by kernel_rfl) ?_
   intro w18 hk
   have K18 := Lib.hid (show Kb w [(b1, lqA y, 26), (b3, cfA ⟨0, 0, 0, dl, 0, 0⟩, 38), (b6, poA (pW x u x.p9 x.p11 x.p19), 42), (b9, poA (pW x u x.p9 x.p11 x.p19), 42), (b11, poA (pW x u true 2 x.p19), 42), (b14, poA (pW x u true 2 0), 42)] w18 from hk)
   clear hk
   (try simp only [Act.put, gA, gS, gZ, sA, sZ, sS])
   refine wv (.pointer (some ⟨b11, 19, none⟩)) ?_
   (try simp only [Act.put, gA, gS, gZ, sA, sZ, sS])
   refine kb_set K18.out 4 rfl 3 _ _ 19 (.int .i64 0) rfl (by rfl) rfl rfl (kb_run_set K18.out (i := 4) rfl 3 19 (.int .i64 x.p19) (.int .i64 0) (by rfl) (fun W h1 h2 => by go_simp)) (poA (pW x u true 2 0)) (by kernel_rfl) ?_
   intro w19 hk
   have K19 := Lib.hid (show Kb w [(b1, lqA y, 26), (b3, cfA ⟨0, 0, 0, dl, 0, 0⟩, 38), (b6, poA (pW x u x.p9 x.p11 x.p19), 42), (b9, poA (pW x u x.p9 x.p11 x.p19), 42), (b11, poA (pW x u true 2 0), 42), (b14, poA (pW x u true 2 0), 42)] w19 from hk)
   clear hk
   (try simp only [Act.put, gA, gS, gZ, sA, sZ, sS])
   refine wpList_nil ?_
   go_upto_region 20 with fail
   refine wp_region_lit ?_
   refine wv (.agg (poA (pW x u true 2 0))) ?_ (hrun := kb_all K19.out 5 rfl 42 _ rfl rfl Try.underlying42 rfl (size50))
   (try simp only [Act.put, gA, gS, gZ, sA, sZ, sS])
   refine wv (.agg (poA (pW x u true 2 0))) ?_ (hrun := kb_all K19.out 4 rfl 42 _ rfl rfl Try.underlying42 rfl (size50))
   (try simp only [Act.put, gA, gS, gZ, sA, sZ, sS])
   refine wv (.bool false) ?_ (hrun := by have q := eq_po (pW x u true 2 0); go_simp)
   (try simp only [Act.put, gA, gS, gZ, sA, sZ, sS])
   refine wv (.bool false) ?_
   (try simp only [Act.put, gA, gS, gZ, sA, sZ, sS])
   refine wv (.bool false) ?_
   (try simp only [Act.put, gA, gS, gZ, sA, sZ, sS])
   refine wv (.pointer (some ⟨b11, 11, none⟩)) ?_
   (try simp only [Act.put, gA, gS, gZ, sA, sZ, sS])
   refine wv (.int .i64 2) ?_ (hrun := by have q : w19.cell? ⟨b11, 11, none⟩ = some (.int .i64 2) := K19.out.cell (i := 4) rfl (by rfl); go_simp)
   (try simp only [Act.put, gA, gS, gZ, sA, sZ, sS])
   refine wv (.bool true) ?_
   (try simp only [Act.put, gA, gS, gZ, sA, sZ, sS])
   refine wv (.bool true) ?_
   (try simp only [Act.put, gA, gS, gZ, sA, sZ, sS])
   refine wv (.pointer (some ⟨b6, 11, none⟩)) ?_
   (try simp only [Act.put, gA, gS, gZ, sA, sZ, sS])
   refine wv (.int .i64 x.p11) ?_ (hrun := by have q : w19.cell? ⟨b6, 11, none⟩ = some (.int .i64 x.p11) := K19.out.cell (i := 2) rfl (by rfl); go_simp)
   (try simp only [Act.put, gA, gS, gZ, sA, sZ, sS])
   refine wv (.bool false) ?_ (hrun := by have q := HS.out; go_simp)
   (try simp only [Act.put, gA, gS, gZ, sA, sZ, sS])
   refine wv (.bool false) ?_ (hrun := run_pick_yes (.tmp 92) (.tmp 95) (.const (.bool false)) _ rfl rfl rfl)
   (try simp only [Act.put, gA, gS, gZ, sA, sZ, sS])
   refine wv (.bool false) ?_
   (try simp only [Act.put, gA, gS, gZ, sA, sZ, sS])
   refine wv (.bool false) ?_ (hrun := run_pick_no (.tmp 87) (.const (.bool true)) (.tmp 97) _ rfl rfl rfl)
   (try simp only [Act.put, gA, gS, gZ, sA, sZ, sS])
   refine wpList_nil ?_
   go_upto_region 22 with fail
   refine wp_region_lit ?_
   refine wv (.agg (poA (pW x u x.p9 x.p11 x.p19))) ?_ (hrun := kb_all K19.out 2 rfl 42 _ rfl rfl Try.underlying42 rfl (size50))
   (try simp only [Act.put, gA, gS, gZ, sA, sZ, sS])
   refine wv (.agg (cfA ⟨0, 0, 0, dl, 0, 0⟩)) ?_ (hrun := kb_all K19.out 1 rfl 38 _ rfl rfl Try.underlying38 rfl (size34))
   (try simp only [Act.put, gA, gS, gZ, sA, sZ, sS])
   refine kb_call K19.out 12 #[.agg (poA (pW x u x.p9 x.p11 x.p19)), .agg (cfA ⟨0, 0, 0, dl, 0, 0⟩)] (.agg (poA (pW x u x.p9 x.p11 x.p19))) (by rfl) (by go_simp) (block_is (pW x u x.p9 x.p11 x.p19) (pW x u x.p9 x.p11 x.p19) ⟨0, 0, 0, dl, 0, 0⟩ (by unfold blockP; rw [if_neg (fun h => Bool.noConfusion (HED.out.symm.trans h.2.1))]) w19) ?_
   intro w20 hk
   have K20 := Lib.hid (show Kb w [(b1, lqA y, 26), (b3, cfA ⟨0, 0, 0, dl, 0, 0⟩, 38), (b6, poA (pW x u x.p9 x.p11 x.p19), 42), (b9, poA (pW x u x.p9 x.p11 x.p19), 42), (b11, poA (pW x u true 2 0), 42), (b14, poA (pW x u true 2 0), 42)] w20 from hk)
   clear hk
   (try simp only [Act.put, gA, gS, gZ, sA, sZ, sS])
   refine kb_alloc K20.out 42 (nil21) rfl z50 (by rfl) ?_
   intro b21 w21 hb21 hk
   have K21 := Lib.hid (show Kb w [(b1, lqA y, 26), (b3, cfA ⟨0, 0, 0, dl, 0, 0⟩, 38), (b6, poA (pW x u x.p9 x.p11 x.p19), 42), (b9, poA (pW x u x.p9 x.p11 x.p19), 42), (b11, poA (pW x u true 2 0), 42), (b14, poA (pW x u true 2 0), 42), (b21, nil21, 42)] w21 from hk)
   clear hk hb21
   (try simp only [Act.put, gA, gS, gZ, sA, sZ, sS])
   refine kb_row K21.out 6 rfl 42 _ _ (poA (pW x u x.p9 x.p11 x.p19)) rfl rfl rfl rfl (size50) (by rfl) (po_all _) ?_
   intro w22 hk
   have K22 := Lib.hid (show Kb w [(b1, lqA y, 26), (b3, cfA ⟨0, 0, 0, dl, 0, 0⟩, 38), (b6, poA (pW x u x.p9 x.p11 x.p19), 42), (b9, poA (pW x u x.p9 x.p11 x.p19), 42), (b11, poA (pW x u true 2 0), 42), (b14, poA (pW x u true 2 0), 42), (b21, poA (pW x u x.p9 x.p11 x.p19), 42)] w22 from hk)
   clear hk
   (try simp only [Act.put, gA, gS, gZ, sA, sZ, sS])
   refine wpList_nil ?_
   go_upto_region 23 with fail
   refine wp_region_lit ?_
   refine wv (.agg (poA (pW x u x.p9 x.p11 x.p19))) ?_ (hrun := kb_all K22.out 2 rfl 42 _ rfl rfl Try.underlying42 rfl (size50))
   (try simp only [Act.put, gA, gS, gZ, sA, sZ, sS])
   refine kb_row K22.out 4 rfl 42 _ _ (poA (pW x u x.p9 x.p11 x.p19)) rfl rfl rfl rfl (size50) (by rfl) (po_all _) ?_
   intro w23 hk
   have K23 := Lib.hid (show Kb w [(b1, lqA y, 26), (b3, cfA ⟨0, 0, 0, dl, 0, 0⟩, 38), (b6, poA (pW x u x.p9 x.p11 x.p19), 42), (b9, poA (pW x u x.p9 x.p11 x.p19), 42), (b11, poA (pW x u x.p9 x.p11 x.p19), 42), (b14, poA (pW x u true 2 0), 42), (b21, poA (pW x u x.p9 x.p11 x.p19), 42)] w23 from hk)
   clear hk
   (try simp only [Act.put, gA, gS, gZ, sA, sZ, sS])
   refine wpList_nil ?_
   go_upto_region 24 with fail
   refine wp_region_lit ?_
   refine wv (.pointer (some ⟨b6, 10, none⟩)) ?_
   (try simp only [Act.put, gA, gS, gZ, sA, sZ, sS])
   refine wv (.int .i64 x.p10) ?_ (hrun := by have q : w23.cell? ⟨b6, 10, none⟩ = some (.int .i64 x.p10) := K23.out.cell (i := 2) rfl (by rfl); go_simp)
   (try simp only [Act.put, gA, gS, gZ, sA, sZ, sS])
   refine wv (.bool true) ?_ (hrun := by have q := HR.out; go_simp)
   (try simp only [Act.put, gA, gS, gZ, sA, sZ, sS])
   refine wv (.bool true) ?_
   (try simp only [Act.put, gA, gS, gZ, sA, sZ, sS])
   refine wv (.bool true) ?_
   (try simp only [Act.put, gA, gS, gZ, sA, sZ, sS])
   refine wv (.bool false) ?_
   (try simp only [Act.put, gA, gS, gZ, sA, sZ, sS])
   refine wv (.bool false) ?_ (hrun := run_pick_yes (.tmp 106) (.tmp 108) (.const (.bool false)) _ rfl rfl rfl)
   (try simp only [Act.put, gA, gS, gZ, sA, sZ, sS])
   refine wv (.bool false) ?_
   (try simp only [Act.put, gA, gS, gZ, sA, sZ, sS])
   refine wpList_skip (by kernel_rfl) ?_
   (try simp only [Act.put, gA, gS, gZ, sA, sZ, sS])
   refine wpList_skip (by kernel_rfl) ?_
   (try simp only [Act.put, gA, gS, gZ, sA, sZ, sS])
   refine wpList_skip (by kernel_rfl) ?_
   (try simp only [Act.put, gA, gS, gZ, sA, sZ, sS])
   refine wv (.bool false) ?_ (hrun := run_pick_no (.tmp 110) (.tmp 113) (.const (.bool false)) _ rfl rfl rfl)
   (try simp only [Act.put, gA, gS, gZ, sA, sZ, sS])
   refine wv (.bool false) ?_
   (try simp only [Act.put, gA, gS, gZ, sA, sZ, sS])
   refine wpList_skip (by kernel_rfl) ?_
   (try simp only [Act.put, gA, gS, gZ, sA, sZ, sS])
   refine wpList_skip (by kernel_rfl) ?_
   (try simp only [Act.put, gA, gS, gZ, sA, sZ, sS])
   refine wpList_skip (by kernel_rfl) ?_
   (try simp only [Act.put, gA, gS, gZ, sA, sZ, sS])
   refine wv (.bool false) ?_ (hrun := run_pick_no (.tmp 115) (.tmp 118) (.const (.bool false)) _ rfl rfl rfl)
   (try simp only [Act.put, gA, gS, gZ, sA, sZ, sS])
   refine wpList_nil ?_
   go_upto_region 26 with fail
   refine wp_region_lit ?_
   refine wv (.agg (poA (pW x u x.p9 x.p11 x.p19))) ?_ (hrun := kb_all K23.out 6 rfl 42 _ rfl rfl Try.underlying42 rfl (size50))
   (try simp only [Act.put, gA, gS, gZ, sA, sZ, sS])
   refine wv (.agg (poA (pW x u x.p9 x.p11 x.p19))) ?_ (hrun := kb_all K23.out 4 rfl 42 _ rfl rfl Try.underlying42 rfl (size50))
   (try simp only [Act.put, gA, gS, gZ, sA, sZ, sS])
   refine wv (.bool true) ?_ (hrun := by have q := eq_po (pW x u x.p9 x.p11 x.p19); go_simp)
   (try simp only [Act.put, gA, gS, gZ, sA, sZ, sS])
   refine wv (.bool true) ?_
   (try simp only [Act.put, gA, gS, gZ, sA, sZ, sS])
   refine wv (.agg (poA (pW x u x.p9 x.p11 x.p19))) ?_ (hrun := kb_all K23.out 2 rfl 42 _ rfl rfl Try.underlying42 rfl (size50))
   (try simp only [Act.put, gA, gS, gZ, sA, sZ, sS])
   refine kb_call K23.out 13 #[.agg (poA (pW x u x.p9 x.p11 x.p19))] (.bool true) (by rfl) (by go_simp) (edge_is (pW x u x.p9 x.p11 x.p19) true HED.out w23) ?_
   intro w24 hk
   have K24 := Lib.hid (show Kb w [(b1, lqA y, 26), (b3, cfA ⟨0, 0, 0, dl, 0, 0⟩, 38), (b6, poA (pW x u x.p9 x.p11 x.p19), 42), (b9, poA (pW x u x.p9 x.p11 x.p19), 42), (b11, poA (pW x u x.p9 x.p11 x.p19), 42), (b14, poA (pW x u true 2 0), 42), (b21, poA (pW x u x.p9 x.p11 x.p19), 42)] w24 from hk)
   clear hk
   (try simp only [Act.put, gA, gS, gZ, sA, sZ, sS])
   refine wv (.bool true) ?_
   (try simp only [Act.put, gA, gS, gZ, sA, sZ, sS])
   refine wv (.bool true) ?_
   (try simp only [Act.put, gA, gS, gZ, sA, sZ, sS])
   refine wv (.bool true) ?_ (hrun := run_pick_yes (.tmp 126) (.tmp 130) (.const (.bool false)) _ rfl rfl rfl)
   (try simp only [Act.put, gA, gS, gZ, sA, sZ, sS])
   refine wv (.bool true) ?_
   (try simp only [Act.put, gA, gS, gZ, sA, sZ, sS])
   refine wpList_nil ?_
   go_wp2_with fail
   go_ret
   exact ⟨ret_bool (rfl), K24.out.below⟩
end Go.Proofs.Yteeinlbhcdpnnaa
