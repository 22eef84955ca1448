/- Step. -/
import Derived.Test.YteeinlbhcdpnnaaSa1
namespace Go.Proofs.Yteeinlbhcdpnnaa
open Go.RowKit
attribute [local irreducible] wpQuiet wpList
set_option linter.unusedSimpArgs false
set_option linter.unusedVariables false

/-- The slots, while the region runs. -/
def StA4 (x : Po) (c : Cf) (b1 b2 b3 b4 : Nat) (L : Nat → Bool) : Act := { tmps := #[.agg (poA ⟨x.p0, x.p1, x.p2, x.p3, x.p4, x.p5, x.p6, x.p7, x.p8, x.p9, x.p10, x.p11, x.p12, x.p13, x.p14, x.p15, x.p16, x.p17, x.p18, x.p19, x.p20⟩), .agg (cfA c), .pointer (some ⟨b1, 0, none⟩), .pointer (some ⟨b2, 0, none⟩), .pointer (some ⟨b3, 0, none⟩), .bool false, .pointer (some ⟨b4, 0, none⟩), .pointer (some ⟨b1, 10, none⟩), .int .i64 x.p10, .bool false, .bool false, .pointer (some ⟨b1, 11, none⟩), .int .i64 x.p11, .bool false, .bool false, undef, .agg (poA ⟨x.p0, x.p1, x.p2, x.p3, x.p4, x.p5, x.p6, x.p7, x.p8, x.p9, x.p10, x.p11, x.p12, x.p13, x.p14, x.p15, x.p16, x.p17, x.p18, x.p19, x.p20⟩), .pointer (some ⟨b1, 19, none⟩), .int .i64 x.p19, .int .i64 (IntKind.i64.wrap (x.p19 - 1)), .pointer (some ⟨b1, 19, none⟩), .pointer (some ⟨b4, 19, none⟩), .int .i64 x.p19, .bool false, undef, .pointer (some ⟨b1, 11, none⟩), .int .i64 x.p11, .bool true, .bool true, bif L 0 then .pointer (some ⟨b2, 3, none⟩) else undef, bif L 1 then .int .i64 c.p3 else undef, bif L 2 then .pointer (some ⟨b1, 11, none⟩) else undef, bif L 4 then .pointer (some ⟨b1, 19, none⟩) else undef, undef, undef, undef, undef, undef, undef, undef, undef], defers := [] }
/-- The slots, while the region runs. -/
def StB4 (x : Po) (c : Cf) (b1 b2 b3 b4 : Nat) (L : Nat → Bool) : Act := { tmps := #[.agg (poA ⟨x.p0, x.p1, x.p2, x.p3, x.p4, x.p5, x.p6, x.p7, x.p8, x.p9, x.p10, x.p11, x.p12, x.p13, x.p14, x.p15, x.p16, x.p17, x.p18, x.p19, x.p20⟩), .agg (cfA c), .pointer (some ⟨b1, 0, none⟩), .pointer (some ⟨b2, 0, none⟩), .pointer (some ⟨b3, 0, none⟩), bif L 5 then .bool false else .bool false, .pointer (some ⟨b4, 0, none⟩), .pointer (some ⟨b1, 10, none⟩), .int .i64 x.p10, .bool false, .bool false, .pointer (some ⟨b1, 11, none⟩), .int .i64 x.p11, .bool false, .bool false, undef, .agg (poA ⟨x.p0, x.p1, x.p2, x.p3, x.p4, x.p5, x.p6, x.p7, x.p8, x.p9, x.p10, x.p11, x.p12, x.p13, x.p14, x.p15, x.p16, x.p17, x.p18, x.p19, x.p20⟩), .pointer (some ⟨b1, 19, none⟩), .int .i64 x.p19, .int .i64 (IntKind.i64.wrap (x.p19 - 1)), .pointer (some ⟨b1, 19, none⟩), .pointer (some ⟨b4, 19, none⟩), .int .i64 x.p19, .bool false, undef, .pointer (some ⟨b1, 11, none⟩), .int .i64 x.p11, .bool true, .bool true, .pointer (some ⟨b2, 3, none⟩), .int .i64 c.p3, .pointer (some ⟨b1, 11, none⟩), .pointer (some ⟨b1, 19, none⟩), undef, undef, undef, undef, bif L 0 then .agg (poA ⟨x.p0, x.p1, x.p2, x.p3, x.p4, x.p5, x.p6, x.p7, x.p8, x.p9, x.p10, 1, x.p12, x.p13, x.p14, x.p15, x.p16, x.p17, x.p18, c.p3, x.p20⟩) else undef, bif L 1 then .agg (poA ⟨x.p0, x.p1, x.p2, x.p3, x.p4, x.p5, x.p6, x.p7, x.p8, x.p9, x.p10, x.p11, x.p12, x.p13, x.p14, x.p15, x.p16, x.p17, x.p18, x.p19, x.p20⟩) else undef, bif L 2 then .agg (poA ⟨x.p0, x.p1, x.p2, x.p3, x.p4, x.p5, x.p6, x.p7, x.p8, x.p9, x.p10, 1, x.p12, x.p13, x.p14, x.p15, x.p16, x.p17, x.p18, c.p3, x.p20⟩) else undef, bif L 3 then .bool false else undef], defers := [] }
/-- The slots, while the region runs. -/
def StB5 (x : Po) (c : Cf) (b1 b2 b3 b4 : Nat) (L : Nat → Bool) : Act := { tmps := #[.agg (poA ⟨x.p0, x.p1, x.p2, x.p3, x.p4, x.p5, x.p6, x.p7, x.p8, x.p9, x.p10, x.p11, x.p12, x.p13, x.p14, x.p15, x.p16, x.p17, x.p18, x.p19, x.p20⟩), .agg (cfA c), .pointer (some ⟨b1, 0, none⟩), .pointer (some ⟨b2, 0, none⟩), .pointer (some ⟨b3, 0, none⟩), bif L 5 then .bool true else .bool false, .pointer (some ⟨b4, 0, none⟩), .pointer (some ⟨b1, 10, none⟩), .int .i64 x.p10, .bool false, .bool false, .pointer (some ⟨b1, 11, none⟩), .int .i64 x.p11, .bool false, .bool false, undef, .agg (poA ⟨x.p0, x.p1, x.p2, x.p3, x.p4, x.p5, x.p6, x.p7, x.p8, x.p9, x.p10, x.p11, x.p12, x.p13, x.p14, x.p15, x.p16, x.p17, x.p18, x.p19, x.p20⟩), .pointer (some ⟨b1, 19, none⟩), .int .i64 x.p19, .int .i64 (IntKind.i64.wrap (x.p19 - 1)), .pointer (some ⟨b1, 19, none⟩), .pointer (some ⟨b4, 19, none⟩), .int .i64 x.p19, .bool false, undef, .pointer (some ⟨b1, 11, none⟩), .int .i64 x.p11, .bool false, .bool false, undef, undef, undef, undef, .bool true, .bool true, .pointer (some ⟨b1, 11, none⟩), .pointer (some ⟨b1, 19, none⟩), bif L 0 then .agg (poA ⟨x.p0, x.p1, x.p2, x.p3, x.p4, x.p5, x.p6, x.p7, x.p8, x.p9, x.p10, 2, x.p12, x.p13, x.p14, x.p15, x.p16, x.p17, x.p18, 0, x.p20⟩) else undef, bif L 1 then .agg (poA ⟨x.p0, x.p1, x.p2, x.p3, x.p4, x.p5, x.p6, x.p7, x.p8, x.p9, x.p10, x.p11, x.p12, x.p13, x.p14, x.p15, x.p16, x.p17, x.p18, x.p19, x.p20⟩) else undef, bif L 2 then .agg (poA ⟨x.p0, x.p1, x.p2, x.p3, x.p4, x.p5, x.p6, x.p7, x.p8, x.p9, x.p10, 2, x.p12, x.p13, x.p14, x.p15, x.p16, x.p17, x.p18, 0, x.p20⟩) else undef, bif L 3 then .bool true else undef], defers := [] }
/-- The slots, while the region runs. -/
def StB6 (x : Po) (c : Cf) (b1 b2 b3 b4 : Nat) (L : Nat → Bool) : Act := { tmps := #[.agg (poA ⟨x.p0, x.p1, x.p2, x.p3, x.p4, x.p5, x.p6, x.p7, x.p8, x.p9, x.p10, x.p11, x.p12, x.p13, x.p14, x.p15, x.p16, x.p17, x.p18, x.p19, x.p20⟩), .agg (cfA c), .pointer (some ⟨b1, 0, none⟩), .pointer (some ⟨b2, 0, none⟩), .pointer (some ⟨b3, 0, none⟩), bif L 5 then .bool false else .bool false, .pointer (some ⟨b4, 0, none⟩), .pointer (some ⟨b1, 10, none⟩), .int .i64 x.p10, .bool false, .bool false, .pointer (some ⟨b1, 11, none⟩), .int .i64 x.p11, .bool false, .bool false, undef, .agg (poA ⟨x.p0, x.p1, x.p2, x.p3, x.p4, x.p5, x.p6, x.p7, x.p8, x.p9, x.p10, x.p11, x.p12, x.p13, x.p14, x.p15, x.p16, x.p17, x.p18, x.p19, x.p20⟩), .pointer (some ⟨b1, 19, none⟩), .int .i64 x.p19, .int .i64 (IntKind.i64.wrap (x.p19 - 1)), .pointer (some ⟨b1, 19, none⟩), .pointer (some ⟨b4, 19, none⟩), .int .i64 x.p19, .bool false, undef, .pointer (some ⟨b1, 11, none⟩), .int .i64 x.p11, .bool false, .bool false, undef, undef, undef, undef, .bool false, .bool false, undef, undef, bif L 0 then .agg (poA ⟨x.p0, x.p1, x.p2, x.p3, x.p4, x.p5, x.p6, x.p7, x.p8, x.p9, x.p10, x.p11, x.p12, x.p13, x.p14, x.p15, x.p16, x.p17, x.p18, (IntKind.i64.wrap (x.p19 - 1)), x.p20⟩) else undef, bif L 1 then .agg (poA ⟨x.p0, x.p1, x.p2, x.p3, x.p4, x.p5, x.p6, x.p7, x.p8, x.p9, x.p10, x.p11, x.p12, x.p13, x.p14, x.p15, x.p16, x.p17, x.p18, x.p19, x.p20⟩) else undef, bif L 2 then .agg (poA ⟨x.p0, x.p1, x.p2, x.p3, x.p4, x.p5, x.p6, x.p7, x.p8, x.p9, x.p10, x.p11, x.p12, x.p13, x.p14, x.p15, x.p16, x.p17, x.p18, (IntKind.i64.wrap (x.p19 - 1)), x.p20⟩) else undef, bif L 3 then .bool false else undef], defers := [] }
set_option maxRecDepth 100000 in
set_option maxHeartbeats 8000000 in
theorem step_any (x : Po) (c : Cf) (w : World) : Calls Try.prog 10 #[poV x, cfV c] w fun e w' => e = .returned (.tuple #[poV (stepP x c.p3), .bool (openedB x (stepP x c.p3))]) ∧ Below w.heap.size w w' := by
  by_cases hr : x.p10 = 4
  case neg =>
    have hP : stepP x c.p3 = ⟨x.p0, x.p1, x.p2, x.p3, x.p4, x.p5, x.p6, x.p7, x.p8, x.p9, x.p10, x.p11, x.p12, x.p13, x.p14, x.p15, x.p16, x.p17, x.p18, x.p19, x.p20⟩ := by unfold stepP; rw [if_neg hr]
    have hO : openedB x ⟨x.p0, x.p1, x.p2, x.p3, x.p4, x.p5, x.p6, x.p7, x.p8, x.p9, x.p10, x.p11, x.p12, x.p13, x.p14, x.p15, x.p16, x.p17, x.p18, x.p19, x.p20⟩ = false := by simp [openedB]
    rw [hP, hO]
    have HOP := Lib.hid hO
    clear hP hO
    have HR := Lib.hid hr
    clear hr
    have K := Lib.hid (Kb.nil w)
    go_enter Try.func10, Try.ntmps10
    go_upto_region 0 with fail
    refine wp_region_lit ?_
    refine kb_box K.out 42 (.tmp 0) (poA ⟨x.p0, x.p1, x.p2, x.p3, x.p4, x.p5, x.p6, x.p7, x.p8, x.p9, x.p10, x.p11, x.p12, x.p13, x.p14, x.p15, x.p16, x.p17, x.p18, x.p19, x.p20⟩) rfl rfl (by rfl) ?_
    intro b1 w1 hb1 hk
    have K1 := Lib.hid (show Kb w [(b1, poA ⟨x.p0, x.p1, x.p2, x.p3, x.p4, x.p5, x.p6, x.p7, x.p8, x.p9, x.p10, x.p11, x.p12, x.p13, x.p14, x.p15, x.p16, x.p17, x.p18, x.p19, x.p20⟩, 42)] w1 from hk)
    clear hk hb1
    (try simp only [Act.put, gA, gS, gZ, sA, sZ, sS])
    refine kb_box K1.out 38 (.tmp 1) (cfA c) rfl rfl (by rfl) ?_
    intro b2 w2 hb2 hk
    have K2 := Lib.hid (show Kb w [(b1, poA ⟨x.p0, x.p1, x.p2, x.p3, x.p4, x.p5, x.p6, x.p7, x.p8, x.p9, x.p10, x.p11, x.p12, x.p13, x.p14, x.p15, x.p16, x.p17, x.p18, x.p19, x.p20⟩, 42), (b2, cfA c, 38)] w2 from hk)
    clear hk hb2
    (try simp only [Act.put, gA, gS, gZ, sA, sZ, sS])
    refine kb_alloc K2.out 42 (nil21) rfl z50 (by rfl) ?_
    intro b3 w3 hb3 hk
    have K3 := Lib.hid (show Kb w [(b1, poA ⟨x.p0, x.p1, x.p2, x.p3, x.p4, x.p5, x.p6, x.p7, x.p8, x.p9, x.p10, x.p11, x.p12, x.p13, x.p14, x.p15, x.p16, x.p17, x.p18, x.p19, x.p20⟩, 42), (b2, cfA c, 38), (b3, nil21, 42)] w3 from hk)
    clear hk hb3
    (try simp only [Act.put, gA, gS, gZ, sA, sZ, sS])
    refine wv (.bool false) ?_
    (try simp only [Act.put, gA, gS, gZ, sA, sZ, sS])
    refine wpList_nil ?_
    go_upto_region 1 with fail
    refine wp_region_lit ?_
    refine wv (.pointer (some ⟨b1, 10, none⟩)) ?_
    (try simp only [Act.put, gA, gS, gZ, sA, sZ, sS])
    refine wv (.int .i64 x.p10) ?_ (hrun := by have q : w3.cell? ⟨b1, 10, none⟩ = some (.int .i64 x.p10) := K3.out.cell (i := 0) rfl (by rfl); go_simp)
    (try simp only [Act.put, gA, gS, gZ, sA, sZ, sS])
    refine wv (.bool true) ?_ (hrun := by have q := HR.out; go_simp)
    (try simp only [Act.put, gA, gS, gZ, sA, sZ, sS])
    refine wv (.bool true) ?_
    (try simp only [Act.put, gA, gS, gZ, sA, sZ, sS])
    refine wpList_skip (by kernel_rfl) ?_
    (try simp only [Act.put, gA, gS, gZ, sA, sZ, sS])
    refine wpList_skip (by kernel_rfl) ?_
    (try simp only [Act.put, gA, gS, gZ, sA, sZ, sS])
    refine wpList_skip (by kernel_rfl) ?_
    (try simp only [Act.put, gA, gS, gZ, sA, sZ, sS])
    refine wv (.bool true) ?_ (hrun := run_pick_yes (.tmp 10) (.const (.bool true)) (.tmp 13) _ rfl rfl rfl)
    (try simp only [Act.put, gA, gS, gZ, sA, sZ, sS])
    refine wpList_nil ?_
    go_upto_region 2 with fail
    refine wp_region_lit ?_
    refine wv (.agg (poA ⟨x.p0, x.p1, x.p2, x.p3, x.p4, x.p5, x.p6, x.p7, x.p8, x.p9, x.p10, x.p11, x.p12, x.p13, x.p14, x.p15, x.p16, x.p17, x.p18, x.p19, x.p20⟩)) ?_ (hrun := kb_all K3.out 0 rfl 42 _ rfl rfl Try.underlying42 rfl (size50))
    (try simp only [Act.put, gA, gS, gZ, sA, sZ, sS])
    refine kb_row K3.out 2 rfl 42 _ _ (poA ⟨x.p0, x.p1, x.p2, x.p3, x.p4, x.p5, x.p6, x.p7, x.p8, x.p9, x.p10, x.p11, x.p12, x.p13, x.p14, x.p15, x.p16, x.p17, x.p18, x.p19, x.p20⟩) rfl rfl rfl rfl (size50) (by rfl) (po_all _) ?_
    intro w4 hk
    have K4 := Lib.hid (show Kb w [(b1, poA ⟨x.p0, x.p1, x.p2, x.p3, x.p4, x.p5, x.p6, x.p7, x.p8, x.p9, x.p10, x.p11, x.p12, x.p13, x.p14, x.p15, x.p16, x.p17, x.p18, x.p19, x.p20⟩, 42), (b2, cfA c, 38), (b3, poA ⟨x.p0, x.p1, x.p2, x.p3, x.p4, x.p5, x.p6, x.p7, x.p8, x.p9, x.p10, x.p11, x.p12, x.p13, x.p14, x.p15, x.p16, x.p17, x.p18, x.p19, x.p20⟩, 42)] w4 from hk)
    clear hk
    (try simp only [Act.put, gA, gS, gZ, sA, sZ, sS])
    refine wv (.bool false) ?_
    (try simp only [Act.put, gA, gS, gZ, sA, sZ, sS])
    refine wpList_nil ?_
    go_wp2_with fail
    refine bodyPost_ret (v := .tuple #[.agg (poA ⟨x.p0, x.p1, x.p2, x.p3, x.p4, x.p5, x.p6, x.p7, x.p8, x.p9, x.p10, x.p11, x.p12, x.p13, x.p14, x.p15, x.p16, x.p17, x.p18, x.p19, x.p20⟩), .bool false]) (results_row_tmp Try.results10 _ _ b3 42 (poA ⟨x.p0, x.p1, x.p2, x.p3, x.p4, x.p5, x.p6, x.p7, x.p8, x.p9, x.p10, x.p11, x.p12, x.p13, x.p14, x.p15, x.p16, x.p17, x.p18, x.p19, x.p20⟩) (.bool false) _ rfl rfl (K4.out.at (i := 2) rfl) Try.underlying42 rfl (po_info _)) rfl ?_
    exact ⟨rfl, K4.out.below⟩
  case pos =>
    by_cases hs : x.p11 = 2
    case pos =>
      have hP : stepP x c.p3 = ⟨x.p0, x.p1, x.p2, x.p3, x.p4, x.p5, x.p6, x.p7, x.p8, x.p9, x.p10, x.p11, x.p12, x.p13, x.p14, x.p15, x.p16, x.p17, x.p18, x.p19, x.p20⟩ := by unfold stepP; rw [if_pos hr, if_pos hs]
      have hO : openedB x ⟨x.p0, x.p1, x.p2, x.p3, x.p4, x.p5, x.p6, x.p7, x.p8, x.p9, x.p10, x.p11, x.p12, x.p13, x.p14, x.p15, x.p16, x.p17, x.p18, x.p19, x.p20⟩ = false := by simp [openedB, hs]
      rw [hP, hO]
      have HOP := Lib.hid hO
      clear hP hO
      have HR := Lib.hid hr
      clear hr
      have HS := Lib.hid hs
      clear hs
      have K := Lib.hid (Kb.nil w)
      go_enter Try.func10, Try.ntmps10
      go_upto_region 0 with fail
      refine wp_region_lit ?_
      refine kb_box K.out 42 (.tmp 0) (poA ⟨x.p0, x.p1, x.p2, x.p3, x.p4, x.p5, x.p6, x.p7, x.p8, x.p9, x.p10, x.p11, x.p12, x.p13, x.p14, x.p15, x.p16, x.p17, x.p18, x.p19, x.p20⟩) rfl rfl (by rfl) ?_
      intro b1 w1 hb1 hk
      have K1 := Lib.hid (show Kb w [(b1, poA ⟨x.p0, x.p1, x.p2, x.p3, x.p4, x.p5, x.p6, x.p7, x.p8, x.p9, x.p10, x.p11, x.p12, x.p13, x.p14, x.p15, x.p16, x.p17, x.p18, x.p19, x.p20⟩, 42)] w1 from hk)
      clear hk hb1
      (try simp only [Act.put, gA, gS, gZ, sA, sZ, sS])
      refine kb_box K1.out 38 (.tmp 1) (cfA c) rfl rfl (by rfl) ?_
      intro b2 w2 hb2 hk
      have K2 := Lib.hid (show Kb w [(b1, poA ⟨x.p0, x.p1, x.p2, x.p3, x.p4, x.p5, x.p6, x.p7, x.p8, x.p9, x.p10, x.p11, x.p12, x.p13, x.p14, x.p15, x.p16, x.p17, x.p18, x.p19, x.p20⟩, 42), (b2, cfA c, 38)] w2 from hk)
      clear hk hb2
      (try simp only [Act.put, gA, gS, gZ, sA, sZ, sS])
      refine kb_alloc K2.out 42 (nil21) rfl z50 (by rfl) ?_
      intro b3 w3 hb3 hk
      have K3 := Lib.hid (show Kb w [(b1, poA ⟨x.p0, x.p1, x.p2, x.p3, x.p4, x.p5, x.p6, x.p7, x.p8, x.p9, x.p10, x.p11, x.p12, x.p13, x.p14, x.p15, x.p16, x.p17, x.p18, x.p19, x.p20⟩, 42), (b2, cfA c, 38), (b3, nil21, 42)] w3 from hk)
      clear hk hb3
      (try simp only [Act.put, gA, gS, gZ, sA, sZ, sS])
      refine wv (.bool false) ?_
      (try simp only [Act.put, gA, gS, gZ, sA, sZ, sS])
      refine wpList_nil ?_
      go_upto_region 1 with fail
      refine wp_region_lit ?_
      refine wv (.pointer (some ⟨b1, 10, none⟩)) ?_
      (try simp only [Act.put, gA, gS, gZ, sA, sZ, sS])
      refine wv (.int .i64 x.p10) ?_ (hrun := by have q : w3.cell? ⟨b1, 10, none⟩ = some (.int .i64 x.p10) := K3.out.cell (i := 0) rfl (by rfl); go_simp)
      (try simp only [Act.put, gA, gS, gZ, sA, sZ, sS])
      refine wv (.bool false) ?_ (hrun := by have q := HR.out; go_simp)
      (try simp only [Act.put, gA, gS, gZ, sA, sZ, sS])
      refine wv (.bool false) ?_
      (try simp only [Act.put, gA, gS, gZ, sA, sZ, sS])
      refine wv (.pointer (some ⟨b1, 11, none⟩)) ?_
      (try simp only [Act.put, gA, gS, gZ, sA, sZ, sS])
      refine wv (.int .i64 x.p11) ?_ (hrun := by have q : w3.cell? ⟨b1, 11, none⟩ = some (.int .i64 x.p11) := K3.out.cell (i := 0) rfl (by rfl); go_simp)
      (try simp only [Act.put, gA, gS, gZ, sA, sZ, sS])
      refine wv (.bool true) ?_ (hrun := by have q := HS.out; go_simp)
      (try simp only [Act.put, gA, gS, gZ, sA, sZ, sS])
      refine wv (.bool true) ?_ (hrun := run_pick_no (.tmp 10) (.const (.bool true)) (.tmp 13) _ rfl rfl rfl)
      (try simp only [Act.put, gA, gS, gZ, sA, sZ, sS])
      refine wpList_nil ?_
      go_upto_region 2 with fail
      refine wp_region_lit ?_
      refine wv (.agg (poA ⟨x.p0, x.p1, x.p2, x.p3, x.p4, x.p5, x.p6, x.p7, x.p8, x.p9, x.p10, x.p11, x.p12, x.p13, x.p14, x.p15, x.p16, x.p17, x.p18, x.p19, x.p20⟩)) ?_ (hrun := kb_all K3.out 0 rfl 42 _ rfl rfl Try.underlying42 rfl (size50))
      (try simp only [Act.put, gA, gS, gZ, sA, sZ, sS])
      refine kb_row K3.out 2 rfl 42 _ _ (poA ⟨x.p0, x.p1, x.p2, x.p3, x.p4, x.p5, x.p6, x.p7, x.p8, x.p9, x.p10, x.p11, x.p12, x.p13, x.p14, x.p15, x.p16, x.p17, x.p18, x.p19, x.p20⟩) rfl rfl rfl rfl (size50) (by rfl) (po_all _) ?_
      intro w4 hk
      have K4 := Lib.hid (show Kb w [(b1, poA ⟨x.p0, x.p1, x.p2, x.p3, x.p4, x.p5, x.p6, x.p7, x.p8, x.p9, x.p10, x.p11, x.p12, x.p13, x.p14, x.p15, x.p16, x.p17, x.p18, x.p19, x.p20⟩, 42), (b2, cfA c, 38), (b3, poA ⟨x.p0, x.p1, x.p2, x.p3, x.p4, x.p5, x.p6, x.p7, x.p8, x.p9, x.p10, x.p11, x.p12, x.p13, x.p14, x.p15, x.p16, x.p17, x.p18, x.p19, x.p20⟩, 42)] w4 from hk)
      clear hk
      (try simp only [Act.put, gA, gS, gZ, sA, sZ, sS])
      refine wv (.bool false) ?_
      (try simp only [Act.put, gA, gS, gZ, sA, sZ, sS])
      refine wpList_nil ?_
      go_wp2_with fail
      refine bodyPost_ret (v := .tuple #[.agg (poA ⟨x.p0, x.p1, x.p2, x.p3, x.p4, x.p5, x.p6, x.p7, x.p8, x.p9, x.p10, x.p11, x.p12, x.p13, x.p14, x.p15, x.p16, x.p17, x.p18, x.p19, x.p20⟩), .bool false]) (results_row_tmp Try.results10 _ _ b3 42 (poA ⟨x.p0, x.p1, x.p2, x.p3, x.p4, x.p5, x.p6, x.p7, x.p8, x.p9, x.p10, x.p11, x.p12, x.p13, x.p14, x.p15, x.p16, x.p17, x.p18, x.p19, x.p20⟩) (.bool false) _ rfl rfl (K4.out.at (i := 2) rfl) Try.underlying42 rfl (po_info _)) rfl ?_
      exact ⟨rfl, K4.out.below⟩
    case neg =>
      by_cases hl : 1 < x.p19
      case pos =>
        have hP : stepP x c.p3 = ⟨x.p0, x.p1, x.p2, x.p3, x.p4, x.p5, x.p6, x.p7, x.p8, x.p9, x.p10, x.p11, x.p12, x.p13, x.p14, x.p15, x.p16, x.p17, x.p18, (IntKind.i64.wrap (x.p19 - 1)), x.p20⟩ := by unfold stepP; rw [if_pos hr, if_neg hs, if_pos hl]
        have hO : openedB x ⟨x.p0, x.p1, x.p2, x.p3, x.p4, x.p5, x.p6, x.p7, x.p8, x.p9, x.p10, x.p11, x.p12, x.p13, x.p14, x.p15, x.p16, x.p17, x.p18, (IntKind.i64.wrap (x.p19 - 1)), x.p20⟩ = false := by simp [openedB, hs]
        rw [hP, hO]
        have HOP := Lib.hid hO
        clear hP hO
        have HR := Lib.hid hr
        clear hr
        have HS := Lib.hid hs
        clear hs
        have HL := Lib.hid hl
        clear hl
        have K := Lib.hid (Kb.nil w)
        go_enter Try.func10, Try.ntmps10
        go_upto_region 0 with fail
        refine wp_region_lit ?_
        refine kb_box K.out 42 (.tmp 0) (poA ⟨x.p0, x.p1, x.p2, x.p3, x.p4, x.p5, x.p6, x.p7, x.p8, x.p9, x.p10, x.p11, x.p12, x.p13, x.p14, x.p15, x.p16, x.p17, x.p18, x.p19, x.p20⟩) rfl rfl (by rfl) ?_
        intro b1 w1 hb1 hk
        have K1 := Lib.hid (show Kb w [(b1, poA ⟨x.p0, x.p1, x.p2, x.p3, x.p4, x.p5, x.p6, x.p7, x.p8, x.p9, x.p10, x.p11, x.p12, x.p13, x.p14, x.p15, x.p16, x.p17, x.p18, x.p19, x.p20⟩, 42)] w1 from hk)
        clear hk hb1
        (try simp only [Act.put, gA, gS, gZ, sA, sZ, sS])
        refine kb_box K1.out 38 (.tmp 1) (cfA c) rfl rfl (by rfl) ?_
        intro b2 w2 hb2 hk
        have K2 := Lib.hid (show Kb w [(b1, poA ⟨x.p0, x.p1, x.p2, x.p3, x.p4, x.p5, x.p6, x.p7, x.p8, x.p9, x.p10, x.p11, x.p12, x.p13, x.p14, x.p15, x.p16, x.p17, x.p18, x.p19, x.p20⟩, 42), (b2, cfA c, 38)] w2 from hk)
        clear hk hb2
        (try simp only [Act.put, gA, gS, gZ, sA, sZ, sS])
        refine kb_alloc K2.out 42 (nil21) rfl z50 (by rfl) ?_
        intro b3 w3 hb3 hk
        have K3 := Lib.hid (show Kb w [(b1, poA ⟨x.p0, x.p1, x.p2, x.p3, x.p4, x.p5, x.p6, x.p7, x.p8, x.p9, x.p10, x.p11, x.p12, x.p13, x.p14, x.p15, x.p16, x.p17, x.p18, x.p19, x.p20⟩, 42), (b2, cfA c, 38), (b3, nil21, 42)] w3 from hk)
        clear hk hb3
        (try simp only [Act.put, gA, gS, gZ, sA, sZ, sS])
        refine wv (.bool false) ?_
        (try simp only [Act.put, gA, gS, gZ, sA, sZ, sS])
        refine wpList_nil ?_
        go_upto_region 1 with fail
        refine wp_region_lit ?_
        refine wv (.pointer (some ⟨b1, 10, none⟩)) ?_
        (try simp only [Act.put, gA, gS, gZ, sA, sZ, sS])
        refine wv (.int .i64 x.p10) ?_ (hrun := by have q : w3.cell? ⟨b1, 10, none⟩ = some (.int .i64 x.p10) := K3.out.cell (i := 0) rfl (by rfl); go_simp)
        (try simp only [Act.put, gA, gS, gZ, sA, sZ, sS])
        refine wv (.bool false) ?_ (hrun := by have q := HR.out; go_simp)
        (try simp only [Act.put, gA, gS, gZ, sA, sZ, sS])
        refine wv (.bool false) ?_
        (try simp only [Act.put, gA, gS, gZ, sA, sZ, sS])
        refine wv (.pointer (some ⟨b1, 11, none⟩)) ?_
        (try simp only [Act.put, gA, gS, gZ, sA, sZ, sS])
        refine wv (.int .i64 x.p11) ?_ (hrun := by have q : w3.cell? ⟨b1, 11, none⟩ = some (.int .i64 x.p11) := K3.out.cell (i := 0) rfl (by rfl); go_simp)
        (try simp only [Act.put, gA, gS, gZ, sA, sZ, sS])
        refine wv (.bool false) ?_ (hrun := by have q := HS.out; go_simp)
        (try simp only [Act.put, gA, gS, gZ, sA, sZ, sS])
        refine wv (.bool false) ?_ (hrun := run_pick_no (.tmp 10) (.const (.bool true)) (.tmp 13) _ rfl rfl rfl)
        (try simp only [Act.put, gA, gS, gZ, sA, sZ, sS])
        refine wpList_nil ?_
        go_upto_region 3 with fail
        refine wp_region_lit ?_
        refine wv (.agg (poA ⟨x.p0, x.p1, x.p2, x.p3, x.p4, x.p5, x.p6, x.p7, x.p8, x.p9, x.p10, x.p11, x.p12, x.p13, x.p14, x.p15, x.p16, x.p17, x.p18, x.p19, x.p20⟩)) ?_ (hrun := kb_all K3.out 0 rfl 42 _ rfl rfl Try.underlying42 rfl (size50))
        (try simp only [Act.put, gA, gS, gZ, sA, sZ, sS])
        refine kb_alloc K3.out 42 (nil21) rfl z50 (by rfl) ?_
        intro b4 w4 hb4 hk
        have K4 := Lib.hid (show Kb w [(b1, poA ⟨x.p0, x.p1, x.p2, x.p3, x.p4, x.p5, x.p6, x.p7, x.p8, x.p9, x.p10, x.p11, x.p12, x.p13, x.p14, x.p15, x.p16, x.p17, x.p18, x.p19, x.p20⟩, 42), (b2, cfA c, 38), (b3, nil21, 42), (b4, nil21, 42)] w4 from hk)
        clear hk hb4
        (try simp only [Act.put, gA, gS, gZ, sA, sZ, sS])
        refine kb_row K4.out 3 rfl 42 _ _ (poA ⟨x.p0, x.p1, x.p2, x.p3, x.p4, x.p5, x.p6, x.p7, x.p8, x.p9, x.p10, x.p11, x.p12, x.p13, x.p14, x.p15, x.p16, x.p17, x.p18, x.p19, x.p20⟩) rfl rfl rfl rfl (size50) (by rfl) (po_all _) ?_
        intro w5 hk
        have K5 := Lib.hid (show Kb w [(b1, poA ⟨x.p0, x.p1, x.p2, x.p3, x.p4, x.p5, x.p6, x.p7, x.p8, x.p9, x.p10, x.p11, x.p12, x.p13, x.p14, x.p15, x.p16, x.p17, x.p18, x.p19, x.p20⟩, 42), (b2, cfA c, 38), (b3, nil21, 42), (b4, poA ⟨x.p0, x.p1, x.p2, x.p3, x.p4, x.p5, x.p6, x.p7, x.p8, x.p9, x.p10, x.p11, x.p12, x.p13, x.p14, x.p15, x.p16, x.p17, x.p18, x.p19, x.p20⟩, 42)] w5 from hk)
        clear hk
        (try simp only [Act.put, gA, gS, gZ, sA, sZ, sS])
        refine wpList_nil ?_
        go_upto_region 4 with fail
        refine wp_region_lit ?_
        refine wv (.pointer (some ⟨b1, 19, none⟩)) ?_
        (try simp only [Act.put, gA, gS, gZ, sA, sZ, sS])
        refine wv (.int .i64 x.p19) ?_ (hrun := by have q : w5.cell? ⟨b1, 19, none⟩ = some (.int .i64 x.p19) := K5.out.cell (i := 0) rfl (by rfl); go_simp)
        (try simp only [Act.put, gA, gS, gZ, sA, sZ, sS])
        refine wv (.int .i64 (IntKind.i64.wrap (x.p19 - 1))) ?_
        (try simp only [Act.put, gA, gS, gZ, sA, sZ, sS])
        refine wv (.pointer (some ⟨b1, 19, none⟩)) ?_
        (try simp only [Act.put, gA, gS, gZ, sA, sZ, sS])
        refine kb_set K5.out 0 rfl 3 _ _ 19 (.int .i64 (IntKind.i64.wrap (x.p19 - 1))) rfl (by rfl) rfl rfl (kb_run_set K5.out (i := 0) rfl 3 19 (.int .i64 x.p19) (.int .i64 (IntKind.i64.wrap (x.p19 - 1))) (by rfl) (fun W h1 h2 => by go_simp)) (poA ⟨x.p0, x.p1, x.p2, x.p3, x.p4, x.p5, x.p6, x.p7, x.p8, x.p9, x.p10, x.p11, x.p12, x.p13, x.p14, x.p15, x.p16, x.p17, x.p18, (IntKind.i64.wrap (x.p19 - 1)), x.p20⟩) (by kernel_rfl) ?_
        intro w6 hk
        have K6 := Lib.hid (show Kb w [(b1, poA ⟨x.p0, x.p1, x.p2, x.p3, x.p4, x.p5, x.p6, x.p7, x.p8, x.p9, x.p10, x.p11, x.p12, x.p13, x.p14, x.p15, x.p16, x.p17, x.p18, (IntKind.i64.wrap (x.p19 - 1)), x.p20⟩, 42), (b2, cfA c, 38), (b3, nil21, 42), (b4, poA ⟨x.p0, x.p1, x.p2, x.p3, x.p4, x.p5, x.p6, x.p7, x.p8, x.p9, x.p10, x.p11, x.p12, x.p13, x.p14, x.p15, x.p16, x.p17, x.p18, x.p19, x.p20⟩, 42)] w6 from hk)
        clear hk
        (try simp only [Act.put, gA, gS, gZ, sA, sZ, sS])
        refine wpList_nil ?_
        go_upto_region 5 with fail
        refine wp_region_lit ?_
        refine wv (.pointer (some ⟨b4, 19, none⟩)) ?_
        (try simp only [Act.put, gA, gS, gZ, sA, sZ, sS])
        refine wv (.int .i64 x.p19) ?_ (hrun := by have q : w6.cell? ⟨b4, 19, none⟩ = some (.int .i64 x.p19) := K6.out.cell (i := 3) rfl (by rfl); go_simp)
        (try simp only [Act.put, gA, gS, gZ, sA, sZ, sS])
        refine wv (.bool true) ?_ (hrun := by have q := HL.out; go_simp)
        (try simp only [Act.put, gA, gS, gZ, sA, sZ, sS])
        refine wpList_nil ?_
        go_upto_region 6 with fail
        refine wp_region_lit ?_
        refine wv (.agg (poA ⟨x.p0, x.p1, x.p2, x.p3, x.p4, x.p5, x.p6, x.p7, x.p8, x.p9, x.p10, x.p11, x.p12, x.p13, x.p14, x.p15, x.p16, x.p17, x.p18, (IntKind.i64.wrap (x.p19 - 1)), x.p20⟩)) ?_ (hrun := kb_all K6.out 0 rfl 42 _ rfl rfl Try.underlying42 rfl (size50))
        (try simp only [Act.put, gA, gS, gZ, sA, sZ, sS])
        refine kb_row K6.out 2 rfl 42 _ _ (poA ⟨x.p0, x.p1, x.p2, x.p3, x.p4, x.p5, x.p6, x.p7, x.p8, x.p9, x.p10, x.p11, x.p12, x.p13, x.p14, x.p15, x.p16, x.p17, x.p18, (IntKind.i64.wrap (x.p19 - 1)), x.p20⟩) rfl rfl rfl rfl (size50) (by rfl) (po_all _) ?_
        intro w7 hk
        have K7 := Lib.hid (show Kb w [(b1, poA ⟨x.p0, x.p1, x.p2, x.p3, x.p4, x.p5, x.p6, x.p7, x.p8, x.p9, x.p10, x.p11, x.p12, x.p13, x.p14, x.p15, x.p16, x.p17, x.p18, (IntKind.i64.wrap (x.p19 - 1)), x.p20⟩, 42), (b2, cfA c, 38), (b3, poA ⟨x.p0, x.p1, x.p2, x.p3, x.p4, x.p5, x.p6, x.p7, x.p8, x.p9, x.p10, x.p11, x.p12, x.p13, x.p14, x.p15, x.p16, x.p17, x.p18, (IntKind.i64.wrap (x.p19 - 1)), x.p20⟩, 42), (b4, poA ⟨x.p0, x.p1, x.p2, x.p3, x.p4, x.p5, x.p6, x.p7, x.p8, x.p9, x.p10, x.p11, x.p12, x.p13, x.p14, x.p15, x.p16, x.p17, x.p18, x.p19, x.p20⟩, 42)] w7 from hk)
        clear hk
        (try simp only [Act.put, gA, gS, gZ, sA, sZ, sS])
        refine wv (.bool false) ?_
        (try simp only [Act.put, gA, gS, gZ, sA, sZ, sS])
        refine wpList_nil ?_
        go_wp2_with fail
        refine bodyPost_ret (v := .tuple #[.agg (poA ⟨x.p0, x.p1, x.p2, x.p3, x.p4, x.p5, x.p6, x.p7, x.p8, x.p9, x.p10, x.p11, x.p12, x.p13, x.p14, x.p15, x.p16, x.p17, x.p18, (IntKind.i64.wrap (x.p19 - 1)), x.p20⟩), .bool false]) (results_row_tmp Try.results10 _ _ b3 42 (poA ⟨x.p0, x.p1, x.p2, x.p3, x.p4, x.p5, x.p6, x.p7, x.p8, x.p9, x.p10, x.p11, x.p12, x.p13, x.p14, x.p15, x.p16, x.p17, x.p18, (IntKind.i64.wrap (x.p19 - 1)), x.p20⟩) (.bool false) _ rfl rfl (K7.out.at (i := 2) rfl) Try.underlying42 rfl (po_info _)) rfl ?_
        exact ⟨rfl, K7.out.below⟩
      case neg =>
        by_cases hz : x.p11 = 0
        case pos =>
          have hP : stepP x c.p3 = ⟨x.p0, x.p1, x.p2, x.p3, x.p4, x.p5, x.p6, x.p7, x.p8, x.p9, x.p10, 1, x.p12, x.p13, x.p14, x.p15, x.p16, x.p17, x.p18, c.p3, x.p20⟩ := by unfold stepP; rw [if_pos hr, if_neg hs, if_neg hl, if_pos hz]
          have hO : openedB x ⟨x.p0, x.p1, x.p2, x.p3, x.p4, x.p5, x.p6, x.p7, x.p8, x.p9, x.p10, 1, x.p12, x.p13, x.p14, x.p15, x.p16, x.p17, x.p18, c.p3, x.p20⟩ = false := by simp [openedB, hs]
          rw [hP, hO]
          have HOP := Lib.hid hO
          clear hP hO
          have HR := Lib.hid hr
          clear hr
          have HS := Lib.hid hs
          clear hs
          have HL := Lib.hid hl
          clear hl
          have HZ := Lib.hid hz
          clear hz
          have K := Lib.hid (Kb.nil w)
          go_enter Try.func10, Try.ntmps10
          go_upto_region 0 with fail
          refine wp_region_lit ?_
          refine kb_box K.out 42 (.tmp 0) (poA ⟨x.p0, x.p1, x.p2, x.p3, x.p4, x.p5, x.p6, x.p7, x.p8, x.p9, x.p10, x.p11, x.p12, x.p13, x.p14, x.p15, x.p16, x.p17, x.p18, x.p19, x.p20⟩) rfl rfl (by rfl) ?_
          intro b1 w1 hb1 hk
          have K1 := Lib.hid (show Kb w [(b1, poA ⟨x.p0, x.p1, x.p2, x.p3, x.p4, x.p5, x.p6, x.p7, x.p8, x.p9, x.p10, x.p11, x.p12, x.p13, x.p14, x.p15, x.p16, x.p17, x.p18, x.p19, x.p20⟩, 42)] w1 from hk)
          clear hk hb1
          (try simp only [Act.put, gA, gS, gZ, sA, sZ, sS])
          refine kb_box K1.out 38 (.tmp 1) (cfA c) rfl rfl (by rfl) ?_
          intro b2 w2 hb2 hk
          have K2 := Lib.hid (show Kb w [(b1, poA ⟨x.p0, x.p1, x.p2, x.p3, x.p4, x.p5, x.p6, x.p7, x.p8, x.p9, x.p10, x.p11, x.p12, x.p13, x.p14, x.p15, x.p16, x.p17, x.p18, x.p19, x.p20⟩, 42), (b2, cfA c, 38)] w2 from hk)
          clear hk hb2
          (try simp only [Act.put, gA, gS, gZ, sA, sZ, sS])
          refine kb_alloc K2.out 42 (nil21) rfl z50 (by rfl) ?_
          intro b3 w3 hb3 hk
          have K3 := Lib.hid (show Kb w [(b1, poA ⟨x.p0, x.p1, x.p2, x.p3, x.p4, x.p5, x.p6, x.p7, x.p8, x.p9, x.p10, x.p11, x.p12, x.p13, x.p14, x.p15, x.p16, x.p17, x.p18, x.p19, x.p20⟩, 42), (b2, cfA c, 38), (b3, nil21, 42)] w3 from hk)
          clear hk hb3
          (try simp only [Act.put, gA, gS, gZ, sA, sZ, sS])
          refine wv (.bool false) ?_
          (try simp only [Act.put, gA, gS, gZ, sA, sZ, sS])
          refine wpList_nil ?_
          go_upto_region 1 with fail
          refine wp_region_lit ?_
          refine wv (.pointer (some ⟨b1, 10, none⟩)) ?_
          (try simp only [Act.put, gA, gS, gZ, sA, sZ, sS])
          refine wv (.int .i64 x.p10) ?_ (hrun := by have q : w3.cell? ⟨b1, 10, none⟩ = some (.int .i64 x.p10) := K3.out.cell (i := 0) rfl (by rfl); go_simp)
          (try simp only [Act.put, gA, gS, gZ, sA, sZ, sS])
          refine wv (.bool false) ?_ (hrun := by have q := HR.out; go_simp)
          (try simp only [Act.put, gA, gS, gZ, sA, sZ, sS])
          refine wv (.bool false) ?_
          (try simp only [Act.put, gA, gS, gZ, sA, sZ, sS])
          refine wv (.pointer (some ⟨b1, 11, none⟩)) ?_
          (try simp only [Act.put, gA, gS, gZ, sA, sZ, sS])
          refine wv (.int .i64 x.p11) ?_ (hrun := by have q : w3.cell? ⟨b1, 11, none⟩ = some (.int .i64 x.p11) := K3.out.cell (i := 0) rfl (by rfl); go_simp)
          (try simp only [Act.put, gA, gS, gZ, sA, sZ, sS])
          refine wv (.bool false) ?_ (hrun := by have q := HS.out; go_simp)
          (try simp only [Act.put, gA, gS, gZ, sA, sZ, sS])
          refine wv (.bool false) ?_ (hrun := run_pick_no (.tmp 10) (.const (.bool true)) (.tmp 13) _ rfl rfl rfl)
          (try simp only [Act.put, gA, gS, gZ, sA, sZ, sS])
          refine wpList_nil ?_
          go_upto_region 3 with fail
          refine wp_region_lit ?_
          refine wv (.agg (poA ⟨x.p0, x.p1, x.p2, x.p3, x.p4, x.p5, x.p6, x.p7, x.p8, x.p9, x.p10, x.p11, x.p12, x.p13, x.p14, x.p15, x.p16, x.p17, x.p18, x.p19, x.p20⟩)) ?_ (hrun := kb_all K3.out 0 rfl 42 _ rfl rfl Try.underlying42 rfl (size50))
          (try simp only [Act.put, gA, gS, gZ, sA, sZ, sS])
          refine kb_alloc K3.out 42 (nil21) rfl z50 (by rfl) ?_
          intro b4 w4 hb4 hk
          have K4 := Lib.hid (show Kb w [(b1, poA ⟨x.p0, x.p1, x.p2, x.p3, x.p4, x.p5, x.p6, x.p7, x.p8, x.p9, x.p10, x.p11, x.p12, x.p13, x.p14, x.p15, x.p16, x.p17, x.p18, x.p19, x.p20⟩, 42), (b2, cfA c, 38), (b3, nil21, 42), (b4, nil21, 42)] w4 from hk)
          clear hk hb4
          (try simp only [Act.put, gA, gS, gZ, sA, sZ, sS])
          refine kb_row K4.out 3 rfl 42 _ _ (poA ⟨x.p0, x.p1, x.p2, x.p3, x.p4, x.p5, x.p6, x.p7, x.p8, x.p9, x.p10, x.p11, x.p12, x.p13, x.p14, x.p15, x.p16, x.p17, x.p18, x.p19, x.p20⟩) rfl rfl rfl rfl (size50) (by rfl) (po_all _) ?_
          intro w5 hk
          have K5 := Lib.hid (show Kb w [(b1, poA ⟨x.p0, x.p1, x.p2, x.p3, x.p4, x.p5, x.p6, x.p7, x.p8, x.p9, x.p10, x.p11, x.p12, x.p13, x.p14, x.p15, x.p16, x.p17, x.p18, x.p19, x.p20⟩, 42), (b2, cfA c, 38), (b3, nil21, 42), (b4, poA ⟨x.p0, x.p1, x.p2, x.p3, x.p4, x.p5, x.p6, x.p7, x.p8, x.p9, x.p10, x.p11, x.p12, x.p13, x.p14, x.p15, x.p16, x.p17, x.p18, x.p19, x.p20⟩, 42)] w5 from hk)
          clear hk
          (try simp only [Act.put, gA, gS, gZ, sA, sZ, sS])
          refine wpList_nil ?_
          go_upto_region 4 with fail
          refine wp_region_lit ?_
          refine wv (.pointer (some ⟨b1, 19, none⟩)) ?_
          (try simp only [Act.put, gA, gS, gZ, sA, sZ, sS])
          refine wv (.int .i64 x.p19) ?_ (hrun := by have q : w5.cell? ⟨b1, 19, none⟩ = some (.int .i64 x.p19) := K5.out.cell (i := 0) rfl (by rfl); go_simp)
          (try simp only [Act.put, gA, gS, gZ, sA, sZ, sS])
          refine wv (.int .i64 (IntKind.i64.wrap (x.p19 - 1))) ?_
          (try simp only [Act.put, gA, gS, gZ, sA, sZ, sS])
          refine wv (.pointer (some ⟨b1, 19, none⟩)) ?_
          (try simp only [Act.put, gA, gS, gZ, sA, sZ, sS])
          refine kb_set K5.out 0 rfl 3 _ _ 19 (.int .i64 (IntKind.i64.wrap (x.p19 - 1))) rfl (by rfl) rfl rfl (kb_run_set K5.out (i := 0) rfl 3 19 (.int .i64 x.p19) (.int .i64 (IntKind.i64.wrap (x.p19 - 1))) (by rfl) (fun W h1 h2 => by go_simp)) (poA ⟨x.p0, x.p1, x.p2, x.p3, x.p4, x.p5, x.p6, x.p7, x.p8, x.p9, x.p10, x.p11, x.p12, x.p13, x.p14, x.p15, x.p16, x.p17, x.p18, (IntKind.i64.wrap (x.p19 - 1)), x.p20⟩) (by kernel_rfl) ?_
          intro w6 hk
          have K6 := Lib.hid (show Kb w [(b1, poA ⟨x.p0, x.p1, x.p2, x.p3, x.p4, x.p5, x.p6, x.p7, x.p8, x.p9, x.p10, x.p11, x.p12, x.p13, x.p14, x.p15, x.p16, x.p17, x.p18, (IntKind.i64.wrap (x.p19 - 1)), x.p20⟩, 42), (b2, cfA c, 38), (b3, nil21, 42), (b4, poA ⟨x.p0, x.p1, x.p2, x.p3, x.p4, x.p5, x.p6, x.p7, x.p8, x.p9, x.p10, x.p11, x.p12, x.p13, x.p14, x.p15, x.p16, x.p17, x.p18, x.p19, x.p20⟩, 42)] w6 from hk)
          clear hk
          (try simp only [Act.put, gA, gS, gZ, sA, sZ, sS])
          refine wpList_nil ?_
          go_upto_region 5 with fail
          refine wp_region_lit ?_
          refine wv (.pointer (some ⟨b4, 19, none⟩)) ?_
          (try simp only [Act.put, gA, gS, gZ, sA, sZ, sS])
          refine wv (.int .i64 x.p19) ?_ (hrun := by have q : w6.cell? ⟨b4, 19, none⟩ = some (.int .i64 x.p19) := K6.out.cell (i := 3) rfl (by rfl); go_simp)
          (try simp only [Act.put, gA, gS, gZ, sA, sZ, sS])
          refine wv (.bool false) ?_ (hrun := by have q := HL.out; go_simp)
          (try simp only [Act.put, gA, gS, gZ, sA, sZ, sS])
          refine wpList_nil ?_
          go_upto_region 7 with fail
          refine wp_region_lit ?_
          refine wv (.pointer (some ⟨b1, 11, none⟩)) ?_
          (try simp only [Act.put, gA, gS, gZ, sA, sZ, sS])
          refine wv (.int .i64 x.p11) ?_ (hrun := by have q : w6.cell? ⟨b1, 11, none⟩ = some (.int .i64 x.p11) := K6.out.cell (i := 0) rfl (by rfl); go_simp)
          (try simp only [Act.put, gA, gS, gZ, sA, sZ, sS])
          refine wpList_nil ?_
          go_upto_region 8 with fail
          refine wp_region_lit ?_
          refine wv (.bool true) ?_ (hrun := by have q := HZ.out; go_simp)
          (try simp only [Act.put, gA, gS, gZ, sA, sZ, sS])
          refine wv (.bool true) ?_
          (try simp only [Act.put, gA, gS, gZ, sA, sZ, sS])
          refine wpList_nil ?_
          go_upto_region 9 with fail
          refine wp_region_inv (I := fun L ac w' => ac = StA4 x c b1 b2 b3 b4 L ∧ Kb w [(b1, poA ⟨x.p0, x.p1, x.p2, x.p3, x.p4, x.p5, x.p6, x.p7, x.p8, x.p9, x.p10, (bif L 3 then 1 else x.p11), x.p12, x.p13, x.p14, x.p15, x.p16, x.p17, x.p18, (bif L 5 then c.p3 else (IntKind.i64.wrap (x.p19 - 1))), x.p20⟩, 42), (b2, cfA c, 38), (b3, nil21, 42), (b4, poA ⟨x.p0, x.p1, x.p2, x.p3, x.p4, x.p5, x.p6, x.p7, x.p8, x.p9, x.p10, x.p11, x.p12, x.p13, x.p14, x.p15, x.p16, x.p17, x.p18, x.p19, x.p20⟩, 42)] w') (by kernel_rfl) (by kernel_rfl) ⟨by kernel_rfl, K6.out.drew⟩ ?_ ?_
          · intro i hi Lx ac w' hI hL haft
            obtain ⟨rfl, hw⟩ := hI
            match i, hi with
            | 0, _ =>
              have g3 : (StA4 x c b1 b2 b3 b4 Lx).tmps[3]?.getD undef = .pointer (some ⟨b2, 0, none⟩) := by kernel_rfl
              have e3 : (StA4 x c b1 b2 b3 b4 Lx).eval (.tmp 3) = .pointer (some ⟨b2, 0, none⟩) := by kernel_rfl
              exact i_val rfl (.pointer (some ⟨b2, 3, none⟩)) w' (by rfl) (by go_simp) ⟨by kernel_rfl, hw⟩
            | 1, _ =>
              have h0 := haft 0 (by decide)
              have e29 : (StA4 x c b1 b2 b3 b4 Lx).eval (.tmp 29) = .pointer (some ⟨b2, 3, none⟩) := by show (bif Lx 0 then _ else _) = _; rw [h0]; rfl
              have g29 : (StA4 x c b1 b2 b3 b4 Lx).tmps[29]?.getD undef = .pointer (some ⟨b2, 3, none⟩) := by show (bif Lx 0 then _ else _) = _; rw [h0]; rfl
              exact i_val rfl (.int .i64 c.p3) w' (by rfl) (by have q : w'.cell? ⟨b2, 3, none⟩ = some (.int .i64 c.p3) := Kb.cell (i := 1) hw rfl (by rfl); go_simp) ⟨by kernel_rfl, hw⟩
            | 2, _ =>
              have g2 : (StA4 x c b1 b2 b3 b4 Lx).tmps[2]?.getD undef = .pointer (some ⟨b1, 0, none⟩) := by kernel_rfl
              have e2 : (StA4 x c b1 b2 b3 b4 Lx).eval (.tmp 2) = .pointer (some ⟨b1, 0, none⟩) := by kernel_rfl
              exact i_val rfl (.pointer (some ⟨b1, 11, none⟩)) w' (by rfl) (by go_simp) ⟨by kernel_rfl, hw⟩
            | 3, _ =>
              have h2 := haft 2 (by decide)
              have e31 : (StA4 x c b1 b2 b3 b4 Lx).eval (.tmp 31) = .pointer (some ⟨b1, 11, none⟩) := by show (bif Lx 2 then _ else _) = _; rw [h2]; rfl
              have g31 : (StA4 x c b1 b2 b3 b4 Lx).tmps[31]?.getD undef = .pointer (some ⟨b1, 11, none⟩) := by show (bif Lx 2 then _ else _) = _; rw [h2]; rfl
              exact i_wp rfl (by rfl) (wp_store_cell 3 _ _ rfl ⟨b1, 11, none⟩ (.int .i64 1) e31 rfl (kb_run_set hw (i := 0) rfl 3 11 (.int .i64 (bif Lx 3 then 1 else x.p11)) (.int .i64 1) (by rfl) (fun W h1 h2 => by go_simp)) ⟨by kernel_rfl, cast_blk (Kb.set (i := 0) hw rfl 11 (.int .i64 1)) (by rfl)⟩)
            | 4, _ =>
              have g2 : (StA4 x c b1 b2 b3 b4 Lx).tmps[2]?.getD undef = .pointer (some ⟨b1, 0, none⟩) := by kernel_rfl
              have e2 : (StA4 x c b1 b2 b3 b4 Lx).eval (.tmp 2) = .pointer (some ⟨b1, 0, none⟩) := by kernel_rfl
              exact i_val rfl (.pointer (some ⟨b1, 19, none⟩)) w' (by rfl) (by go_simp) ⟨by kernel_rfl, hw⟩
            | 5, _ =>
              have h1 := haft 1 (by decide)
              have e30 : (StA4 x c b1 b2 b3 b4 Lx).eval (.tmp 30) = .int .i64 c.p3 := by show (bif Lx 1 then _ else _) = _; rw [h1]; rfl
              have g30 : (StA4 x c b1 b2 b3 b4 Lx).tmps[30]?.getD undef = .int .i64 c.p3 := by show (bif Lx 1 then _ else _) = _; rw [h1]; rfl
              have h4 := haft 4 (by decide)
              have e32 : (StA4 x c b1 b2 b3 b4 Lx).eval (.tmp 32) = .pointer (some ⟨b1, 19, none⟩) := by show (bif Lx 4 then _ else _) = _; rw [h4]; rfl
              have g32 : (StA4 x c b1 b2 b3 b4 Lx).tmps[32]?.getD undef = .pointer (some ⟨b1, 19, none⟩) := by show (bif Lx 4 then _ else _) = _; rw [h4]; rfl
              exact i_wp rfl (by rfl) (wp_store_cell 3 _ _ rfl ⟨b1, 19, none⟩ (.int .i64 c.p3) e32 e30 (kb_run_set hw (i := 0) rfl 3 19 (.int .i64 (bif Lx 5 then c.p3 else (IntKind.i64.wrap (x.p19 - 1)))) (.int .i64 c.p3) (by rfl) (fun W h1 h2 => by go_simp)) ⟨by kernel_rfl, cast_blk (Kb.set (i := 0) hw rfl 19 (.int .i64 c.p3)) (by rfl)⟩)
            | k + 6, h =>
              exfalso
              have h2 : k + 6 < 6 := h
              omega
          intro Lx ac w7 hI hall
          obtain ⟨rfl, hw⟩ := hI
          have hfr : StA4 x c b1 b2 b3 b4 Lx = { tmps := #[.agg (poA ⟨x.p0, x.p1, x.p2, x.p3, x.p4, x.p5, x.p6, x.p7, x.p8, x.p9, x.p10, x.p11, x.p12, x.p13, x.p14, x.p15, x.p16, x.p17, x.p18, x.p19, x.p20⟩), .agg (cfA c), .pointer (some ⟨b1, 0, none⟩), .pointer (some ⟨b2, 0, none⟩), .pointer (some ⟨b3, 0, none⟩), .bool false, .pointer (some ⟨b4, 0, none⟩), .pointer (some ⟨b1, 10, none⟩), .int .i64 x.p10, .bool false, .bool false, .pointer (some ⟨b1, 11, none⟩), .int .i64 x.p11, .bool false, .bool false, undef, .agg (poA ⟨x.p0, x.p1, x.p2, x.p3, x.p4, x.p5, x.p6, x.p7, x.p8, x.p9, x.p10, x.p11, x.p12, x.p13, x.p14, x.p15, x.p16, x.p17, x.p18, x.p19, x.p20⟩), .pointer (some ⟨b1, 19, none⟩), .int .i64 x.p19, .int .i64 (IntKind.i64.wrap (x.p19 - 1)), .pointer (some ⟨b1, 19, none⟩), .pointer (some ⟨b4, 19, none⟩), .int .i64 x.p19, .bool false, undef, .pointer (some ⟨b1, 11, none⟩), .int .i64 x.p11, .bool true, .bool true, .pointer (some ⟨b2, 3, none⟩), .int .i64 c.p3, .pointer (some ⟨b1, 11, none⟩), .pointer (some ⟨b1, 19, none⟩), undef, undef, undef, undef, undef, undef, undef, undef], defers := [] } := by unfold StA4; simp only [hall 0 (by decide), hall 1 (by decide), hall 2 (by decide), hall 4 (by decide), cond_true]
          rw [hfr]
          clear hfr
          have hL3 := hall 3 (by decide)
          have hL5 := hall 5 (by decide)
          simp only [hL3, hL5, cond_true] at hw
          have K7 := Lib.hid (show Kb w [(b1, poA ⟨x.p0, x.p1, x.p2, x.p3, x.p4, x.p5, x.p6, x.p7, x.p8, x.p9, x.p10, 1, x.p12, x.p13, x.p14, x.p15, x.p16, x.p17, x.p18, c.p3, x.p20⟩, 42), (b2, cfA c, 38), (b3, nil21, 42), (b4, poA ⟨x.p0, x.p1, x.p2, x.p3, x.p4, x.p5, x.p6, x.p7, x.p8, x.p9, x.p10, x.p11, x.p12, x.p13, x.p14, x.p15, x.p16, x.p17, x.p18, x.p19, x.p20⟩, 42)] w7 from hw)
          clear hw hall hL3 hL5
          go_upto_region 12 with fail
          refine wp_region_inv_dc (I := fun L ac w' => ac = StB4 x c b1 b2 b3 b4 L ∧ Kb w [(b1, poA ⟨x.p0, x.p1, x.p2, x.p3, x.p4, x.p5, x.p6, x.p7, x.p8, x.p9, x.p10, 1, x.p12, x.p13, x.p14, x.p15, x.p16, x.p17, x.p18, c.p3, x.p20⟩, 42), (b2, cfA c, 38), (b3, bif L 4 then poA ⟨x.p0, x.p1, x.p2, x.p3, x.p4, x.p5, x.p6, x.p7, x.p8, x.p9, x.p10, 1, x.p12, x.p13, x.p14, x.p15, x.p16, x.p17, x.p18, c.p3, x.p20⟩ else nil21, 42), (b4, poA ⟨x.p0, x.p1, x.p2, x.p3, x.p4, x.p5, x.p6, x.p7, x.p8, x.p9, x.p10, x.p11, x.p12, x.p13, x.p14, x.p15, x.p16, x.p17, x.p18, x.p19, x.p20⟩, 42)] w') (by kernel_rfl) (by kernel_rfl) ⟨by kernel_rfl, K7.out.drew⟩ ?_ ?_
          · intro i hi Lx ac w' hI hL haft hdc
            obtain ⟨rfl, hw⟩ := hI
            match i, hi with
            | 0, _ =>
              have g2 : (StB4 x c b1 b2 b3 b4 Lx).tmps[2]?.getD undef = .pointer (some ⟨b1, 0, none⟩) := by kernel_rfl
              have e2 : (StB4 x c b1 b2 b3 b4 Lx).eval (.tmp 2) = .pointer (some ⟨b1, 0, none⟩) := by kernel_rfl
              exact i_val rfl (.agg (poA ⟨x.p0, x.p1, x.p2, x.p3, x.p4, x.p5, x.p6, x.p7, x.p8, x.p9, x.p10, 1, x.p12, x.p13, x.p14, x.p15, x.p16, x.p17, x.p18, c.p3, x.p20⟩)) w' (by rfl) (kb_all hw 0 rfl 42 _ rfl e2 Try.underlying42 rfl (size50)) ⟨by kernel_rfl, hw⟩
            | 1, _ =>
              have g6 : (StB4 x c b1 b2 b3 b4 Lx).tmps[6]?.getD undef = .pointer (some ⟨b4, 0, none⟩) := by kernel_rfl
              have e6 : (StB4 x c b1 b2 b3 b4 Lx).eval (.tmp 6) = .pointer (some ⟨b4, 0, none⟩) := by kernel_rfl
              exact i_val rfl (.agg (poA ⟨x.p0, x.p1, x.p2, x.p3, x.p4, x.p5, x.p6, x.p7, x.p8, x.p9, x.p10, x.p11, x.p12, x.p13, x.p14, x.p15, x.p16, x.p17, x.p18, x.p19, x.p20⟩)) w' (by rfl) (kb_all hw 3 rfl 42 _ rfl e6 Try.underlying42 rfl (size50)) ⟨by kernel_rfl, hw⟩
            | 2, _ =>
              have g2 : (StB4 x c b1 b2 b3 b4 Lx).tmps[2]?.getD undef = .pointer (some ⟨b1, 0, none⟩) := by kernel_rfl
              have e2 : (StB4 x c b1 b2 b3 b4 Lx).eval (.tmp 2) = .pointer (some ⟨b1, 0, none⟩) := by kernel_rfl
              exact i_val rfl (.agg (poA ⟨x.p0, x.p1, x.p2, x.p3, x.p4, x.p5, x.p6, x.p7, x.p8, x.p9, x.p10, 1, x.p12, x.p13, x.p14, x.p15, x.p16, x.p17, x.p18, c.p3, x.p20⟩)) w' (by rfl) (kb_all hw 0 rfl 42 _ rfl e2 Try.underlying42 rfl (size50)) ⟨by kernel_rfl, hw⟩
            | 3, _ =>
              have h1 := haft 1 (by decide)
              have e38 : (StB4 x c b1 b2 b3 b4 Lx).eval (.tmp 38) = .agg (poA ⟨x.p0, x.p1, x.p2, x.p3, x.p4, x.p5, x.p6, x.p7, x.p8, x.p9, x.p10, x.p11, x.p12, x.p13, x.p14, x.p15, x.p16, x.p17, x.p18, x.p19, x.p20⟩) := by show (bif Lx 1 then _ else _) = _; rw [h1]; rfl
              have g38 : (StB4 x c b1 b2 b3 b4 Lx).tmps[38]?.getD undef = .agg (poA ⟨x.p0, x.p1, x.p2, x.p3, x.p4, x.p5, x.p6, x.p7, x.p8, x.p9, x.p10, x.p11, x.p12, x.p13, x.p14, x.p15, x.p16, x.p17, x.p18, x.p19, x.p20⟩) := by show (bif Lx 1 then _ else _) = _; rw [h1]; rfl
              have h2 := haft 2 (by decide)
              have e39 : (StB4 x c b1 b2 b3 b4 Lx).eval (.tmp 39) = .agg (poA ⟨x.p0, x.p1, x.p2, x.p3, x.p4, x.p5, x.p6, x.p7, x.p8, x.p9, x.p10, 1, x.p12, x.p13, x.p14, x.p15, x.p16, x.p17, x.p18, c.p3, x.p20⟩) := by show (bif Lx 2 then _ else _) = _; rw [h2]; rfl
              have g39 : (StB4 x c b1 b2 b3 b4 Lx).tmps[39]?.getD undef = .agg (poA ⟨x.p0, x.p1, x.p2, x.p3, x.p4, x.p5, x.p6, x.p7, x.p8, x.p9, x.p10, 1, x.p12, x.p13, x.p14, x.p15, x.p16, x.p17, x.p18, c.p3, x.p20⟩) := by show (bif Lx 2 then _ else _) = _; rw [h2]; rfl
              exact i_call rfl (.bool false) 16 #[.agg (poA ⟨x.p0, x.p1, x.p2, x.p3, x.p4, x.p5, x.p6, x.p7, x.p8, x.p9, x.p10, x.p11, x.p12, x.p13, x.p14, x.p15, x.p16, x.p17, x.p18, x.p19, x.p20⟩), .agg (poA ⟨x.p0, x.p1, x.p2, x.p3, x.p4, x.p5, x.p6, x.p7, x.p8, x.p9, x.p10, 1, x.p12, x.p13, x.p14, x.p15, x.p16, x.p17, x.p18, c.p3, x.p20⟩)] (fun w2 => Below w'.heap.size w' w2) (by rfl) (by go_simp) (opened_is ⟨x.p0, x.p1, x.p2, x.p3, x.p4, x.p5, x.p6, x.p7, x.p8, x.p9, x.p10, x.p11, x.p12, x.p13, x.p14, x.p15, x.p16, x.p17, x.p18, x.p19, x.p20⟩ ⟨x.p0, x.p1, x.p2, x.p3, x.p4, x.p5, x.p6, x.p7, x.p8, x.p9, x.p10, 1, x.p12, x.p13, x.p14, x.p15, x.p16, x.p17, x.p18, c.p3, x.p20⟩ false HOP.out w') (fun w2 hb => ⟨by kernel_rfl, hw.next hb⟩)
            | 4, _ =>
              have g4 : (StB4 x c b1 b2 b3 b4 Lx).tmps[4]?.getD undef = .pointer (some ⟨b3, 0, none⟩) := by kernel_rfl
              have e4 : (StB4 x c b1 b2 b3 b4 Lx).eval (.tmp 4) = .pointer (some ⟨b3, 0, none⟩) := by kernel_rfl
              have h0 := haft 0 (by decide)
              have e37 : (StB4 x c b1 b2 b3 b4 Lx).eval (.tmp 37) = .agg (poA ⟨x.p0, x.p1, x.p2, x.p3, x.p4, x.p5, x.p6, x.p7, x.p8, x.p9, x.p10, 1, x.p12, x.p13, x.p14, x.p15, x.p16, x.p17, x.p18, c.p3, x.p20⟩) := by show (bif Lx 0 then _ else _) = _; rw [h0]; rfl
              have g37 : (StB4 x c b1 b2 b3 b4 Lx).tmps[37]?.getD undef = .agg (poA ⟨x.p0, x.p1, x.p2, x.p3, x.p4, x.p5, x.p6, x.p7, x.p8, x.p9, x.p10, 1, x.p12, x.p13, x.p14, x.p15, x.p16, x.p17, x.p18, c.p3, x.p20⟩) := by show (bif Lx 0 then _ else _) = _; rw [h0]; rfl
              exact i_wp rfl (by rfl) (wp_store_row 42 _ _ rfl b3 (poA ⟨x.p0, x.p1, x.p2, x.p3, x.p4, x.p5, x.p6, x.p7, x.p8, x.p9, x.p10, 1, x.p12, x.p13, x.p14, x.p15, x.p16, x.p17, x.p18, c.p3, x.p20⟩) e4 e37 42 (bif Lx 4 then poA ⟨x.p0, x.p1, x.p2, x.p3, x.p4, x.p5, x.p6, x.p7, x.p8, x.p9, x.p10, 1, x.p12, x.p13, x.p14, x.p15, x.p16, x.p17, x.p18, c.p3, x.p20⟩ else nil21) (Kb.at (i := 2) hw rfl) (size50) (by rw [hL]; rfl) (po_all _) ⟨by kernel_rfl, cast_blk (Kb.row (i := 2) hw rfl (poA ⟨x.p0, x.p1, x.p2, x.p3, x.p4, x.p5, x.p6, x.p7, x.p8, x.p9, x.p10, 1, x.p12, x.p13, x.p14, x.p15, x.p16, x.p17, x.p18, c.p3, x.p20⟩)) (by rfl)⟩)
            | 5, _ =>
              have h3 := haft 3 (by decide)
              have e40 : (StB4 x c b1 b2 b3 b4 Lx).eval (.tmp 40) = .bool false := by show (bif Lx 3 then _ else _) = _; rw [h3]; rfl
              have g40 : (StB4 x c b1 b2 b3 b4 Lx).tmps[40]?.getD undef = .bool false := by show (bif Lx 3 then _ else _) = _; rw [h3]; rfl
              exact i_val rfl (.bool false) w' (by rfl) (by go_simp) ⟨by kernel_rfl, hw⟩
            | k + 6, h =>
              exfalso
              have h2 : k + 6 < 6 := h
              omega
          intro Lx ac w8 hI hall
          obtain ⟨rfl, hw⟩ := hI
          have hfr : StB4 x c b1 b2 b3 b4 Lx = { tmps := #[.agg (poA ⟨x.p0, x.p1, x.p2, x.p3, x.p4, x.p5, x.p6, x.p7, x.p8, x.p9, x.p10, x.p11, x.p12, x.p13, x.p14, x.p15, x.p16, x.p17, x.p18, x.p19, x.p20⟩), .agg (cfA c), .pointer (some ⟨b1, 0, none⟩), .pointer (some ⟨b2, 0, none⟩), .pointer (some ⟨b3, 0, none⟩), .bool false, .pointer (some ⟨b4, 0, none⟩), .pointer (some ⟨b1, 10, none⟩), .int .i64 x.p10, .bool false, .bool false, .pointer (some ⟨b1, 11, none⟩), .int .i64 x.p11, .bool false, .bool false, undef, .agg (poA ⟨x.p0, x.p1, x.p2, x.p3, x.p4, x.p5, x.p6, x.p7, x.p8, x.p9, x.p10, x.p11, x.p12, x.p13, x.p14, x.p15, x.p16, x.p17, x.p18, x.p19, x.p20⟩), .pointer (some ⟨b1, 19, none⟩), .int .i64 x.p19, .int .i64 (IntKind.i64.wrap (x.p19 - 1)), .pointer (some ⟨b1, 19, none⟩), .pointer (some ⟨b4, 19, none⟩), .int .i64 x.p19, .bool false, undef, .pointer (some ⟨b1, 11, none⟩), .int .i64 x.p11, .bool true, .bool true, .pointer (some ⟨b2, 3, none⟩), .int .i64 c.p3, .pointer (some ⟨b1, 11, none⟩), .pointer (some ⟨b1, 19, none⟩), undef, undef, undef, undef, .agg (poA ⟨x.p0, x.p1, x.p2, x.p3, x.p4, x.p5, x.p6, x.p7, x.p8, x.p9, x.p10, 1, x.p12, x.p13, x.p14, x.p15, x.p16, x.p17, x.p18, c.p3, x.p20⟩), .agg (poA ⟨x.p0, x.p1, x.p2, x.p3, x.p4, x.p5, x.p6, x.p7, x.p8, x.p9, x.p10, x.p11, x.p12, x.p13, x.p14, x.p15, x.p16, x.p17, x.p18, x.p19, x.p20⟩), .agg (poA ⟨x.p0, x.p1, x.p2, x.p3, x.p4, x.p5, x.p6, x.p7, x.p8, x.p9, x.p10, 1, x.p12, x.p13, x.p14, x.p15, x.p16, x.p17, x.p18, c.p3, x.p20⟩), .bool false], defers := [] } := by unfold StB4; simp only [hall 0 (by decide), hall 1 (by decide), hall 2 (by decide), hall 3 (by decide), hall 5 (by decide), cond_true]
          rw [hfr]
          clear hfr
          have hL4 := hall 4 (by decide)
          simp only [hL4, cond_true] at hw
          have K8 := Lib.hid (show Kb w [(b1, poA ⟨x.p0, x.p1, x.p2, x.p3, x.p4, x.p5, x.p6, x.p7, x.p8, x.p9, x.p10, 1, x.p12, x.p13, x.p14, x.p15, x.p16, x.p17, x.p18, c.p3, x.p20⟩, 42), (b2, cfA c, 38), (b3, poA ⟨x.p0, x.p1, x.p2, x.p3, x.p4, x.p5, x.p6, x.p7, x.p8, x.p9, x.p10, 1, x.p12, x.p13, x.p14, x.p15, x.p16, x.p17, x.p18, c.p3, x.p20⟩, 42), (b4, poA ⟨x.p0, x.p1, x.p2, x.p3, x.p4, x.p5, x.p6, x.p7, x.p8, x.p9, x.p10, x.p11, x.p12, x.p13, x.p14, x.p15, x.p16, x.p17, x.p18, x.p19, x.p20⟩, 42)] w8 from hw)
          clear hw hall hL4
          go_wp2_with fail
          refine bodyPost_ret (v := .tuple #[.agg (poA ⟨x.p0, x.p1, x.p2, x.p3, x.p4, x.p5, x.p6, x.p7, x.p8, x.p9, x.p10, 1, x.p12, x.p13, x.p14, x.p15, x.p16, x.p17, x.p18, c.p3, x.p20⟩), .bool false]) (results_row_tmp Try.results10 _ _ b3 42 (poA ⟨x.p0, x.p1, x.p2, x.p3, x.p4, x.p5, x.p6, x.p7, x.p8, x.p9, x.p10, 1, x.p12, x.p13, x.p14, x.p15, x.p16, x.p17, x.p18, c.p3, x.p20⟩) (.bool false) _ rfl rfl (K8.out.at (i := 2) rfl) Try.underlying42 rfl (po_info _)) rfl ?_
          exact ⟨rfl, K8.out.below⟩
        case neg =>
          by_cases hy : x.p11 = 1
          case pos =>
            have hP : stepP x c.p3 = ⟨x.p0, x.p1, x.p2, x.p3, x.p4, x.p5, x.p6, x.p7, x.p8, x.p9, x.p10, 2, x.p12, x.p13, x.p14, x.p15, x.p16, x.p17, x.p18, 0, x.p20⟩ := by unfold stepP; rw [if_pos hr, if_neg hs, if_neg hl, if_neg hz, if_pos hy]
            have hO : openedB x ⟨x.p0, x.p1, x.p2, x.p3, x.p4, x.p5, x.p6, x.p7, x.p8, x.p9, x.p10, 2, x.p12, x.p13, x.p14, x.p15, x.p16, x.p17, x.p18, 0, x.p20⟩ = true := by simp [openedB, hs]
            rw [hP, hO]
            have HOP := Lib.hid hO
            clear hP hO
            have HR := Lib.hid hr
            clear hr
            have HS := Lib.hid hs
            clear hs
            have HL := Lib.hid hl
            clear hl
            have HZ := Lib.hid hz
            clear hz
            have HY := Lib.hid hy
            clear hy
            have K := Lib.hid (Kb.nil w)
            go_enter Try.func10, Try.ntmps10
            go_upto_region 0 with fail
            refine wp_region_lit ?_
            refine kb_box K.out 42 (.tmp 0) (poA ⟨x.p0, x.p1, x.p2, x.p3, x.p4, x.p5, x.p6, x.p7, x.p8, x.p9, x.p10, x.p11, x.p12, x.p13, x.p14, x.p15, x.p16, x.p17, x.p18, x.p19, x.p20⟩) rfl rfl (by rfl) ?_
            intro b1 w1 hb1 hk
            have K1 := Lib.hid (show Kb w [(b1, poA ⟨x.p0, x.p1, x.p2, x.p3, x.p4, x.p5, x.p6, x.p7, x.p8, x.p9, x.p10, x.p11, x.p12, x.p13, x.p14, x.p15, x.p16, x.p17, x.p18, x.p19, x.p20⟩, 42)] w1 from hk)
            clear hk hb1
            (try simp only [Act.put, gA, gS, gZ, sA, sZ, sS])
            refine kb_box K1.out 38 (.tmp 1) (cfA c) rfl rfl (by rfl) ?_
            intro b2 w2 hb2 hk
            have K2 := Lib.hid (show Kb w [(b1, poA ⟨x.p0, x.p1, x.p2, x.p3, x.p4, x.p5, x.p6, x.p7, x.p8, x.p9, x.p10, x.p11, x.p12, x.p13, x.p14, x.p15, x.p16, x.p17, x.p18, x.p19, x.p20⟩, 42), (b2, cfA c, 38)] w2 from hk)
            clear hk hb2
            (try simp only [Act.put, gA, gS, gZ, sA, sZ, sS])
            refine kb_alloc K2.out 42 (nil21) rfl z50 (by rfl) ?_
            intro b3 w3 hb3 hk
            have K3 := Lib.hid (show Kb w [(b1, poA ⟨x.p0, x.p1, x.p2, x.p3, x.p4, x.p5, x.p6, x.p7, x.p8, x.p9, x.p10, x.p11, x.p12, x.p13, x.p14, x.p15, x.p16, x.p17, x.p18, x.p19, x.p20⟩, 42), (b2, cfA c, 38), (b3, nil21, 42)] w3 from hk)
            clear hk hb3
            (try simp only [Act.put, gA, gS, gZ, sA, sZ, sS])
            refine wv (.bool false) ?_
            (try simp only [Act.put, gA, gS, gZ, sA, sZ, sS])
            refine wpList_nil ?_
            go_upto_region 1 with fail
            refine wp_region_lit ?_
            refine wv (.pointer (some ⟨b1, 10, none⟩)) ?_
            (try simp only [Act.put, gA, gS, gZ, sA, sZ, sS])
            refine wv (.int .i64 x.p10) ?_ (hrun := by have q : w3.cell? ⟨b1, 10, none⟩ = some (.int .i64 x.p10) := K3.out.cell (i := 0) rfl (by rfl); go_simp)
            (try simp only [Act.put, gA, gS, gZ, sA, sZ, sS])
            refine wv (.bool false) ?_ (hrun := by have q := HR.out; go_simp)
            (try simp only [Act.put, gA, gS, gZ, sA, sZ, sS])
            refine wv (.bool false) ?_
            (try simp only [Act.put, gA, gS, gZ, sA, sZ, sS])
            refine wv (.pointer (some ⟨b1, 11, none⟩)) ?_
            (try simp only [Act.put, gA, gS, gZ, sA, sZ, sS])
            refine wv (.int .i64 x.p11) ?_ (hrun := by have q : w3.cell? ⟨b1, 11, none⟩ = some (.int .i64 x.p11) := K3.out.cell (i := 0) rfl (by rfl); go_simp)
            (try simp only [Act.put, gA, gS, gZ, sA, sZ, sS])
            refine wv (.bool false) ?_ (hrun := by have q := HS.out; go_simp)
            (try simp only [Act.put, gA, gS, gZ, sA, sZ, sS])
            refine wv (.bool false) ?_ (hrun := run_pick_no (.tmp 10) (.const (.bool true)) (.tmp 13) _ rfl rfl rfl)
            (try simp only [Act.put, gA, gS, gZ, sA, sZ, sS])
            refine wpList_nil ?_
            go_upto_region 3 with fail
            refine wp_region_lit ?_
            refine wv (.agg (poA ⟨x.p0, x.p1, x.p2, x.p3, x.p4, x.p5, x.p6, x.p7, x.p8, x.p9, x.p10, x.p11, x.p12, x.p13, x.p14, x.p15, x.p16, x.p17, x.p18, x.p19, x.p20⟩)) ?_ (hrun := kb_all K3.out 0 rfl 42 _ rfl rfl Try.underlying42 rfl (size50))
            (try simp only [Act.put, gA, gS, gZ, sA, sZ, sS])
            refine kb_alloc K3.out 42 (nil21) rfl z50 (by rfl) ?_
            intro b4 w4 hb4 hk
            have K4 := Lib.hid (show Kb w [(b1, poA ⟨x.p0, x.p1, x.p2, x.p3, x.p4, x.p5, x.p6, x.p7, x.p8, x.p9, x.p10, x.p11, x.p12, x.p13, x.p14, x.p15, x.p16, x.p17, x.p18, x.p19, x.p20⟩, 42), (b2, cfA c, 38), (b3, nil21, 42), (b4, nil21, 42)] w4 from hk)
            clear hk hb4
            (try simp only [Act.put, gA, gS, gZ, sA, sZ, sS])
            refine kb_row K4.out 3 rfl 42 _ _ (poA ⟨x.p0, x.p1, x.p2, x.p3, x.p4, x.p5, x.p6, x.p7, x.p8, x.p9, x.p10, x.p11, x.p12, x.p13, x.p14, x.p15, x.p16, x.p17, x.p18, x.p19, x.p20⟩) rfl rfl rfl rfl (size50) (by rfl) (po_all _) ?_
            intro w5 hk
            have K5 := Lib.hid (show Kb w [(b1, poA ⟨x.p0, x.p1, x.p2, x.p3, x.p4, x.p5, x.p6, x.p7, x.p8, x.p9, x.p10, x.p11, x.p12, x.p13, x.p14, x.p15, x.p16, x.p17, x.p18, x.p19, x.p20⟩, 42), (b2, cfA c, 38), (b3, nil21, 42), (b4, poA ⟨x.p0, x.p1, x.p2, x.p3, x.p4, x.p5, x.p6, x.p7, x.p8, x.p9, x.p10, x.p11, x.p12, x.p13, x.p14, x.p15, x.p16, x.p17, x.p18, x.p19, x.p20⟩, 42)] w5 from hk)
            clear hk
            (try simp only [Act.put, gA, gS, gZ, sA, sZ, sS])
            refine wpList_nil ?_
            go_upto_region 4 with fail
            refine wp_region_lit ?_
            refine wv (.pointer (some ⟨b1, 19, none⟩)) ?_
            (try simp only [Act.put, gA, gS, gZ, sA, sZ, sS])
            refine wv (.int .i64 x.p19) ?_ (hrun := by have q : w5.cell? ⟨b1, 19, none⟩ = some (.int .i64 x.p19) := K5.out.cell (i := 0) rfl (by rfl); go_simp)
            (try simp only [Act.put, gA, gS, gZ, sA, sZ, sS])
            refine wv (.int .i64 (IntKind.i64.wrap (x.p19 - 1))) ?_
            (try simp only [Act.put, gA, gS, gZ, sA, sZ, sS])
            refine wv (.pointer (some ⟨b1, 19, none⟩)) ?_
            (try simp only [Act.put, gA, gS, gZ, sA, sZ, sS])
            refine kb_set K5.out 0 rfl 3 _ _ 19 (.int .i64 (IntKind.i64.wrap (x.p19 - 1))) rfl (by rfl) rfl rfl (kb_run_set K5.out (i := 0) rfl 3 19 (.int .i64 x.p19) (.int .i64 (IntKind.i64.wrap (x.p19 - 1))) (by rfl) (fun W h1 h2 => by go_simp)) (poA ⟨x.p0, x.p1, x.p2, x.p3, x.p4, x.p5, x.p6, x.p7, x.p8, x.p9, x.p10, x.p11, x.p12, x.p13, x.p14, x.p15, x.p16, x.p17, x.p18, (IntKind.i64.wrap (x.p19 - 1)), x.p20⟩) (by kernel_rfl) ?_
            intro w6 hk
            have K6 := Lib.hid (show Kb w [(b1, poA ⟨x.p0, x.p1, x.p2, x.p3, x.p4, x.p5, x.p6, x.p7, x.p8, x.p9, x.p10, x.p11, x.p12, x.p13, x.p14, x.p15, x.p16, x.p17, x.p18, (IntKind.i64.wrap (x.p19 - 1)), x.p20⟩, 42), (b2, cfA c, 38), (b3, nil21, 42), (b4, poA ⟨x.p0, x.p1, x.p2, x.p3, x.p4, x.p5, x.p6, x.p7, x.p8, x.p9, x.p10, x.p11, x.p12, x.p13, x.p14, x.p15, x.p16, x.p17, x.p18, x.p19, x.p20⟩, 42)] w6 from hk)
            clear hk
            (try simp only [Act.put, gA, gS, gZ, sA, sZ, sS])
            refine wpList_nil ?_
            go_upto_region 5 with fail
            refine wp_region_lit ?_
            refine wv (.pointer (some ⟨b4, 19, none⟩)) ?_
            (try simp only [Act.put, gA, gS, gZ, sA, sZ, sS])
            refine wv (.int .i64 x.p19) ?_ (hrun := by have q : w6.cell? ⟨b4, 19, none⟩ = some (.int .i64 x.p19) := K6.out.cell (i := 3) rfl (by rfl); go_simp)
            (try simp only [Act.put, gA, gS, gZ, sA, sZ, sS])
            refine wv (.bool false) ?_ (hrun := by have q := HL.out; go_simp)
            (try simp only [Act.put, gA, gS, gZ, sA, sZ, sS])
            refine wpList_nil ?_
            go_upto_region 7 with fail
            refine wp_region_lit ?_
            refine wv (.pointer (some ⟨b1, 11, none⟩)) ?_
            (try simp only [Act.put, gA, gS, gZ, sA, sZ, sS])
            refine wv (.int .i64 x.p11) ?_ (hrun := by have q : w6.cell? ⟨b1, 11, none⟩ = some (.int .i64 x.p11) := K6.out.cell (i := 0) rfl (by rfl); go_simp)
            (try simp only [Act.put, gA, gS, gZ, sA, sZ, sS])
            refine wpList_nil ?_
            go_upto_region 8 with fail
            refine wp_region_lit ?_
            refine wv (.bool false) ?_ (hrun := by have q := HZ.out; go_simp)
            (try simp only [Act.put, gA, gS, gZ, sA, sZ, sS])
            refine wv (.bool false) ?_
            (try simp only [Act.put, gA, gS, gZ, sA, sZ, sS])
            refine wpList_nil ?_
            go_upto_region 10 with fail
            refine wp_region_lit ?_
            refine wv (.bool true) ?_ (hrun := by have q := HY.out; go_simp)
            (try simp only [Act.put, gA, gS, gZ, sA, sZ, sS])
            refine wv (.bool true) ?_
            (try simp only [Act.put, gA, gS, gZ, sA, sZ, sS])
            refine wpList_nil ?_
            go_upto_region 11 with fail
            refine wp_region_lit ?_
            refine wv (.pointer (some ⟨b1, 11, none⟩)) ?_
            (try simp only [Act.put, gA, gS, gZ, sA, sZ, sS])
            refine kb_set K6.out 0 rfl 3 _ _ 11 (.int .i64 2) rfl (by rfl) rfl rfl (kb_run_set K6.out (i := 0) rfl 3 11 (.int .i64 x.p11) (.int .i64 2) (by rfl) (fun W h1 h2 => by go_simp)) (poA ⟨x.p0, x.p1, x.p2, x.p3, x.p4, x.p5, x.p6, x.p7, x.p8, x.p9, x.p10, 2, x.p12, x.p13, x.p14, x.p15, x.p16, x.p17, x.p18, (IntKind.i64.wrap (x.p19 - 1)), x.p20⟩) (by kernel_rfl) ?_
            intro w7 hk
            have K7 := Lib.hid (show Kb w [(b1, poA ⟨x.p0, x.p1, x.p2, x.p3, x.p4, x.p5, x.p6, x.p7, x.p8, x.p9, x.p10, 2, x.p12, x.p13, x.p14, x.p15, x.p16, x.p17, x.p18, (IntKind.i64.wrap (x.p19 - 1)), x.p20⟩, 42), (b2, cfA c, 38), (b3, nil21, 42), (b4, poA ⟨x.p0, x.p1, x.p2, x.p3, x.p4, x.p5, x.p6, x.p7, x.p8, x.p9, x.p10, x.p11, x.p12, x.p13, x.p14, x.p15, x.p16, x.p17, x.p18, x.p19, x.p20⟩, 42)] w7 from hk)
            clear hk
            (try simp only [Act.put, gA, gS, gZ, sA, sZ, sS])
            refine wv (.pointer (some ⟨b1, 19, none⟩)) ?_
            (try simp only [Act.put, gA, gS, gZ, sA, sZ, sS])
            refine kb_set K7.out 0 rfl 3 _ _ 19 (.int .i64 0) rfl (by rfl) rfl rfl (kb_run_set K7.out (i := 0) rfl 3 19 (.int .i64 (IntKind.i64.wrap (x.p19 - 1))) (.int .i64 0) (by rfl) (fun W h1 h2 => by go_simp)) (poA ⟨x.p0, x.p1, x.p2, x.p3, x.p4, x.p5, x.p6, x.p7, x.p8, x.p9, x.p10, 2, x.p12, x.p13, x.p14, x.p15, x.p16, x.p17, x.p18, 0, x.p20⟩) (by kernel_rfl) ?_
            intro w8 hk
            have K8 := Lib.hid (show Kb w [(b1, poA ⟨x.p0, x.p1, x.p2, x.p3, x.p4, x.p5, x.p6, x.p7, x.p8, x.p9, x.p10, 2, x.p12, x.p13, x.p14, x.p15, x.p16, x.p17, x.p18, 0, x.p20⟩, 42), (b2, cfA c, 38), (b3, nil21, 42), (b4, poA ⟨x.p0, x.p1, x.p2, x.p3, x.p4, x.p5, x.p6, x.p7, x.p8, x.p9, x.p10, x.p11, x.p12, x.p13, x.p14, x.p15, x.p16, x.p17, x.p18, x.p19, x.p20⟩, 42)] w8 from hk)
            clear hk
            (try simp only [Act.put, gA, gS, gZ, sA, sZ, sS])
            refine wpList_nil ?_
            go_upto_region 12 with fail
            refine wp_region_inv_dc (I := fun L ac w' => ac = StB5 x c b1 b2 b3 b4 L ∧ Kb w [(b1, poA ⟨x.p0, x.p1, x.p2, x.p3, x.p4, x.p5, x.p6, x.p7, x.p8, x.p9, x.p10, 2, x.p12, x.p13, x.p14, x.p15, x.p16, x.p17, x.p18, 0, x.p20⟩, 42), (b2, cfA c, 38), (b3, bif L 4 then poA ⟨x.p0, x.p1, x.p2, x.p3, x.p4, x.p5, x.p6, x.p7, x.p8, x.p9, x.p10, 2, x.p12, x.p13, x.p14, x.p15, x.p16, x.p17, x.p18, 0, x.p20⟩ else nil21, 42), (b4, poA ⟨x.p0, x.p1, x.p2, x.p3, x.p4, x.p5, x.p6, x.p7, x.p8, x.p9, x.p10, x.p11, x.p12, x.p13, x.p14, x.p15, x.p16, x.p17, x.p18, x.p19, x.p20⟩, 42)] w') (by kernel_rfl) (by kernel_rfl) ⟨by kernel_rfl, K8.out.drew⟩ ?_ ?_
            · intro i hi Lx ac w' hI hL haft hdc
              obtain ⟨rfl, hw⟩ := hI
              match i, hi with
              | 0, _ =>
                have g2 : (StB5 x c b1 b2 b3 b4 Lx).tmps[2]?.getD undef = .pointer (some ⟨b1, 0, none⟩) := by kernel_rfl
                have e2 : (StB5 x c b1 b2 b3 b4 Lx).eval (.tmp 2) = .pointer (some ⟨b1, 0, none⟩) := by kernel_rfl
                exact i_val rfl (.agg (poA ⟨x.p0, x.p1, x.p2, x.p3, x.p4, x.p5, x.p6, x.p7, x.p8, x.p9, x.p10, 2, x.p12, x.p13, x.p14, x.p15, x.p16, x.p17, x.p18, 0, x.p20⟩)) w' (by rfl) (kb_all hw 0 rfl 42 _ rfl e2 Try.underlying42 rfl (size50)) ⟨by kernel_rfl, hw⟩
              | 1, _ =>
                have g6 : (StB5 x c b1 b2 b3 b4 Lx).tmps[6]?.getD undef = .pointer (some ⟨b4, 0, none⟩) := by kernel_rfl
                have e6 : (StB5 x c b1 b2 b3 b4 Lx).eval (.tmp 6) = .pointer (some ⟨b4, 0, none⟩) := by kernel_rfl
                exact i_val rfl (.agg (poA ⟨x.p0, x.p1, x.p2, x.p3, x.p4, x.p5, x.p6, x.p7, x.p8, x.p9, x.p10, x.p11, x.p12, x.p13, x.p14, x.p15, x.p16, x.p17, x.p18, x.p19, x.p20⟩)) w' (by rfl) (kb_all hw 3 rfl 42 _ rfl e6 Try.underlying42 rfl (size50)) ⟨by kernel_rfl, hw⟩
              | 2, _ =>
                have g2 : (StB5 x c b1 b2 b3 b4 Lx).tmps[2]?.getD undef = .pointer (some ⟨b1, 0, none⟩) := by kernel_rfl
                have e2 : (StB5 x c b1 b2 b3 b4 Lx).eval (.tmp 2) = .pointer (some ⟨b1, 0, none⟩) := by kernel_rfl
                exact i_val rfl (.agg (poA ⟨x.p0, x.p1, x.p2, x.p3, x.p4, x.p5, x.p6, x.p7, x.p8, x.p9, x.p10, 2, x.p12, x.p13, x.p14, x.p15, x.p16, x.p17, x.p18, 0, x.p20⟩)) w' (by rfl) (kb_all hw 0 rfl 42 _ rfl e2 Try.underlying42 rfl (size50)) ⟨by kernel_rfl, hw⟩
              | 3, _ =>
                have h1 := haft 1 (by decide)
                have e38 : (StB5 x c b1 b2 b3 b4 Lx).eval (.tmp 38) = .agg (poA ⟨x.p0, x.p1, x.p2, x.p3, x.p4, x.p5, x.p6, x.p7, x.p8, x.p9, x.p10, x.p11, x.p12, x.p13, x.p14, x.p15, x.p16, x.p17, x.p18, x.p19, x.p20⟩) := by show (bif Lx 1 then _ else _) = _; rw [h1]; rfl
                have g38 : (StB5 x c b1 b2 b3 b4 Lx).tmps[38]?.getD undef = .agg (poA ⟨x.p0, x.p1, x.p2, x.p3, x.p4, x.p5, x.p6, x.p7, x.p8, x.p9, x.p10, x.p11, x.p12, x.p13, x.p14, x.p15, x.p16, x.p17, x.p18, x.p19, x.p20⟩) := by show (bif Lx 1 then _ else _) = _; rw [h1]; rfl
                have h2 := haft 2 (by decide)
                have e39 : (StB5 x c b1 b2 b3 b4 Lx).eval (.tmp 39) = .agg (poA ⟨x.p0, x.p1, x.p2, x.p3, x.p4, x.p5, x.p6, x.p7, x.p8, x.p9, x.p10, 2, x.p12, x.p13, x.p14, x.p15, x.p16, x.p17, x.p18, 0, x.p20⟩) := by show (bif Lx 2 then _ else _) = _; rw [h2]; rfl
                have g39 : (StB5 x c b1 b2 b3 b4 Lx).tmps[39]?.getD undef = .agg (poA ⟨x.p0, x.p1, x.p2, x.p3, x.p4, x.p5, x.p6, x.p7, x.p8, x.p9, x.p10, 2, x.p12, x.p13, x.p14, x.p15, x.p16, x.p17, x.p18, 0, x.p20⟩) := by show (bif Lx 2 then _ else _) = _; rw [h2]; rfl
                exact i_call rfl (.bool true) 16 #[.agg (poA ⟨x.p0, x.p1, x.p2, x.p3, x.p4, x.p5, x.p6, x.p7, x.p8, x.p9, x.p10, x.p11, x.p12, x.p13, x.p14, x.p15, x.p16, x.p17, x.p18, x.p19, x.p20⟩), .agg (poA ⟨x.p0, x.p1, x.p2, x.p3, x.p4, x.p5, x.p6, x.p7, x.p8, x.p9, x.p10, 2, x.p12, x.p13, x.p14, x.p15, x.p16, x.p17, x.p18, 0, x.p20⟩)] (fun w2 => Below w'.heap.size w' w2) (by rfl) (by go_simp) (opened_is ⟨x.p0, x.p1, x.p2, x.p3, x.p4, x.p5, x.p6, x.p7, x.p8, x.p9, x.p10, x.p11, x.p12, x.p13, x.p14, x.p15, x.p16, x.p17, x.p18, x.p19, x.p20⟩ ⟨x.p0, x.p1, x.p2, x.p3, x.p4, x.p5, x.p6, x.p7, x.p8, x.p9, x.p10, 2, x.p12, x.p13, x.p14, x.p15, x.p16, x.p17, x.p18, 0, x.p20⟩ true HOP.out w') (fun w2 hb => ⟨by kernel_rfl, hw.next hb⟩)
              | 4, _ =>
                have g4 : (StB5 x c b1 b2 b3 b4 Lx).tmps[4]?.getD undef = .pointer (some ⟨b3, 0, none⟩) := by kernel_rfl
                have e4 : (StB5 x c b1 b2 b3 b4 Lx).eval (.tmp 4) = .pointer (some ⟨b3, 0, none⟩) := by kernel_rfl
                have h0 := haft 0 (by decide)
                have e37 : (StB5 x c b1 b2 b3 b4 Lx).eval (.tmp 37) = .agg (poA ⟨x.p0, x.p1, x.p2, x.p3, x.p4, x.p5, x.p6, x.p7, x.p8, x.p9, x.p10, 2, x.p12, x.p13, x.p14, x.p15, x.p16, x.p17, x.p18, 0, x.p20⟩) := by show (bif Lx 0 then _ else _) = _; rw [h0]; rfl
                have g37 : (StB5 x c b1 b2 b3 b4 Lx).tmps[37]?.getD undef = .agg (poA ⟨x.p0, x.p1, x.p2, x.p3, x.p4, x.p5, x.p6, x.p7, x.p8, x.p9, x.p10, 2, x.p12, x.p13, x.p14, x.p15, x.p16, x.p17, x.p18, 0, x.p20⟩) := by show (bif Lx 0 then _ else _) = _; rw [h0]; rfl
                exact i_wp rfl (by rfl) (wp_store_row 42 _ _ rfl b3 (poA ⟨x.p0, x.p1, x.p2, x.p3, x.p4, x.p5, x.p6, x.p7, x.p8, x.p9, x.p10, 2, x.p12, x.p13, x.p14, x.p15, x.p16, x.p17, x.p18, 0, x.p20⟩) e4 e37 42 (bif Lx 4 then poA ⟨x.p0, x.p1, x.p2, x.p3, x.p4, x.p5, x.p6, x.p7, x.p8, x.p9, x.p10, 2, x.p12, x.p13, x.p14, x.p15, x.p16, x.p17, x.p18, 0, x.p20⟩ else nil21) (Kb.at (i := 2) hw rfl) (size50) (by rw [hL]; rfl) (po_all _) ⟨by kernel_rfl, cast_blk (Kb.row (i := 2) hw rfl (poA ⟨x.p0, x.p1, x.p2, x.p3, x.p4, x.p5, x.p6, x.p7, x.p8, x.p9, x.p10, 2, x.p12, x.p13, x.p14, x.p15, x.p16, x.p17, x.p18, 0, x.p20⟩)) (by rfl)⟩)
              | 5, _ =>
                have h3 := haft 3 (by decide)
                have e40 : (StB5 x c b1 b2 b3 b4 Lx).eval (.tmp 40) = .bool true := by show (bif Lx 3 then _ else _) = _; rw [h3]; rfl
                have g40 : (StB5 x c b1 b2 b3 b4 Lx).tmps[40]?.getD undef = .bool true := by show (bif Lx 3 then _ else _) = _; rw [h3]; rfl
                exact i_val rfl (.bool true) w' (by rfl) (by go_simp) ⟨by kernel_rfl, hw⟩
              | k + 6, h =>
                exfalso
                have h2 : k + 6 < 6 := h
                omega
            intro Lx ac w9 hI hall
            obtain ⟨rfl, hw⟩ := hI
            have hfr : StB5 x c b1 b2 b3 b4 Lx = { tmps := #[.agg (poA ⟨x.p0, x.p1, x.p2, x.p3, x.p4, x.p5, x.p6, x.p7, x.p8, x.p9, x.p10, x.p11, x.p12, x.p13, x.p14, x.p15, x.p16, x.p17, x.p18, x.p19, x.p20⟩), .agg (cfA c), .pointer (some ⟨b1, 0, none⟩), .pointer (some ⟨b2, 0, none⟩), .pointer (some ⟨b3, 0, none⟩), .bool true, .pointer (some ⟨b4, 0, none⟩), .pointer (some ⟨b1, 10, none⟩), .int .i64 x.p10, .bool false, .bool false, .pointer (some ⟨b1, 11, none⟩), .int .i64 x.p11, .bool false, .bool false, undef, .agg (poA ⟨x.p0, x.p1, x.p2, x.p3, x.p4, x.p5, x.p6, x.p7, x.p8, x.p9, x.p10, x.p11, x.p12, x.p13, x.p14, x.p15, x.p16, x.p17, x.p18, x.p19, x.p20⟩), .pointer (some ⟨b1, 19, none⟩), .int .i64 x.p19, .int .i64 (IntKind.i64.wrap (x.p19 - 1)), .pointer (some ⟨b1, 19, none⟩), .pointer (some ⟨b4, 19, none⟩), .int .i64 x.p19, .bool false, undef, .pointer (some ⟨b1, 11, none⟩), .int .i64 x.p11, .bool false, .bool false, undef, undef, undef, undef, .bool true, .bool true, .pointer (some ⟨b1, 11, none⟩), .pointer (some ⟨b1, 19, none⟩), .agg (poA ⟨x.p0, x.p1, x.p2, x.p3, x.p4, x.p5, x.p6, x.p7, x.p8, x.p9, x.p10, 2, x.p12, x.p13, x.p14, x.p15, x.p16, x.p17, x.p18, 0, x.p20⟩), .agg (poA ⟨x.p0, x.p1, x.p2, x.p3, x.p4, x.p5, x.p6, x.p7, x.p8, x.p9, x.p10, x.p11, x.p12, x.p13, x.p14, x.p15, x.p16, x.p17, x.p18, x.p19, x.p20⟩), .agg (poA ⟨x.p0, x.p1, x.p2, x.p3, x.p4, x.p5, x.p6, x.p7, x.p8, x.p9, x.p10, 2, x.p12, x.p13, x.p14, x.p15, x.p16, x.p17, x.p18, 0, x.p20⟩), .bool true], defers := [] } := by unfold StB5; simp only [hall 0 (by decide), hall 1 (by decide), hall 2 (by decide), hall 3 (by decide), hall 5 (by decide), cond_true]
            rw [hfr]
            clear hfr
            have hL4 := hall 4 (by decide)
            simp only [hL4, cond_true] at hw
            have K9 := Lib.hid (show Kb w [(b1, poA ⟨x.p0, x.p1, x.p2, x.p3, x.p4, x.p5, x.p6, x.p7, x.p8, x.p9, x.p10, 2, x.p12, x.p13, x.p14, x.p15, x.p16, x.p17, x.p18, 0, x.p20⟩, 42), (b2, cfA c, 38), (b3, poA ⟨x.p0, x.p1, x.p2, x.p3, x.p4, x.p5, x.p6, x.p7, x.p8, x.p9, x.p10, 2, x.p12, x.p13, x.p14, x.p15, x.p16, x.p17, x.p18, 0, x.p20⟩, 42), (b4, poA ⟨x.p0, x.p1, x.p2, x.p3, x.p4, x.p5, x.p6, x.p7, x.p8, x.p9, x.p10, x.p11, x.p12, x.p13, x.p14, x.p15, x.p16, x.p17, x.p18, x.p19, x.p20⟩, 42)] w9 from hw)
            clear hw hall hL4
            go_wp2_with fail
            refine bodyPost_ret (v := .tuple #[.agg (poA ⟨x.p0, x.p1, x.p2, x.p3, x.p4, x.p5, x.p6, x.p7, x.p8, x.p9, x.p10, 2, x.p12, x.p13, x.p14, x.p15, x.p16, x.p17, x.p18, 0, x.p20⟩), .bool true]) (results_row_tmp Try.results10 _ _ b3 42 (poA ⟨x.p0, x.p1, x.p2, x.p3, x.p4, x.p5, x.p6, x.p7, x.p8, x.p9, x.p10, 2, x.p12, x.p13, x.p14, x.p15, x.p16, x.p17, x.p18, 0, x.p20⟩) (.bool true) _ rfl rfl (K9.out.at (i := 2) rfl) Try.underlying42 rfl (po_info _)) rfl ?_
            exact ⟨rfl, K9.out.below⟩
          case neg =>
            have hP : stepP x c.p3 = ⟨x.p0, x.p1, x.p2, x.p3, x.p4, x.p5, x.p6, x.p7, x.p8, x.p9, x.p10, x.p11, x.p12, x.p13, x.p14, x.p15, x.p16, x.p17, x.p18, (IntKind.i64.wrap (x.p19 - 1)), x.p20⟩ := by unfold stepP; rw [if_pos hr, if_neg hs, if_neg hl, if_neg hz, if_neg hy]
            have hO : openedB x ⟨x.p0, x.p1, x.p2, x.p3, x.p4, x.p5, x.p6, x.p7, x.p8, x.p9, x.p10, x.p11, x.p12, x.p13, x.p14, x.p15, x.p16, x.p17, x.p18, (IntKind.i64.wrap (x.p19 - 1)), x.p20⟩ = false := by simp [openedB, hs]
            rw [hP, hO]
            have HOP := Lib.hid hO
            clear hP hO
            have HR := Lib.hid hr
            clear hr
            have HS := Lib.hid hs
            clear hs
            have HL := Lib.hid hl
            clear hl
            have HZ := Lib.hid hz
            clear hz
            have HY := Lib.hid hy
            clear hy
            have K := Lib.hid (Kb.nil w)
            go_enter Try.func10, Try.ntmps10
            go_upto_region 0 with fail
            refine wp_region_lit ?_
            refine kb_box K.out 42 (.tmp 0) (poA ⟨x.p0, x.p1, x.p2, x.p3, x.p4, x.p5, x.p6, x.p7, x.p8, x.p9, x.p10, x.p11, x.p12, x.p13, x.p14, x.p15, x.p16, x.p17, x.p18, x.p19, x.p20⟩) rfl rfl (by rfl) ?_
            intro b1 w1 hb1 hk
            have K1 := Lib.hid (show Kb w [(b1, poA ⟨x.p0, x.p1, x.p2, x.p3, x.p4, x.p5, x.p6, x.p7, x.p8, x.p9, x.p10, x.p11, x.p12, x.p13, x.p14, x.p15, x.p16, x.p17, x.p18, x.p19, x.p20⟩, 42)] w1 from hk)
            clear hk hb1
            (try simp only [Act.put, gA, gS, gZ, sA, sZ, sS])
            refine kb_box K1.out 38 (.tmp 1) (cfA c) rfl rfl (by rfl) ?_
            intro b2 w2 hb2 hk
            have K2 := Lib.hid (show Kb w [(b1, poA ⟨x.p0, x.p1, x.p2, x.p3, x.p4, x.p5, x.p6, x.p7, x.p8, x.p9, x.p10, x.p11, x.p12, x.p13, x.p14, x.p15, x.p16, x.p17, x.p18, x.p19, x.p20⟩, 42), (b2, cfA c, 38)] w2 from hk)
            clear hk hb2
            (try simp only [Act.put, gA, gS, gZ, sA, sZ, sS])
            refine kb_alloc K2.out 42 (nil21) rfl z50 (by rfl) ?_
            intro b3 w3 hb3 hk
            have K3 := Lib.hid (show Kb w [(b1, poA ⟨x.p0, x.p1, x.p2, x.p3, x.p4, x.p5, x.p6, x.p7, x.p8, x.p9, x.p10, x.p11, x.p12, x.p13, x.p14, x.p15, x.p16, x.p17, x.p18, x.p19, x.p20⟩, 42), (b2, cfA c, 38), (b3, nil21, 42)] w3 from hk)
            clear hk hb3
            (try simp only [Act.put, gA, gS, gZ, sA, sZ, sS])
            refine wv (.bool false) ?_
            (try simp only [Act.put, gA, gS, gZ, sA, sZ, sS])
            refine wpList_nil ?_
            go_upto_region 1 with fail
            refine wp_region_lit ?_
            refine wv (.pointer (some ⟨b1, 10, none⟩)) ?_
            (try simp only [Act.put, gA, gS, gZ, sA, sZ, sS])
            refine wv (.int .i64 x.p10) ?_ (hrun := by have q : w3.cell? ⟨b1, 10, none⟩ = some (.int .i64 x.p10) := K3.out.cell (i := 0) rfl (by rfl); go_simp)
            (try simp only [Act.put, gA, gS, gZ, sA, sZ, sS])
            refine wv (.bool false) ?_ (hrun := by have q := HR.out; go_simp)
            (try simp only [Act.put, gA, gS, gZ, sA, sZ, sS])
            refine wv (.bool false) ?_
            (try simp only [Act.put, gA, gS, gZ, sA, sZ, sS])
            refine wv (.pointer (some ⟨b1, 11, none⟩)) ?_
            (try simp only [Act.put, gA, gS, gZ, sA, sZ, sS])
            refine wv (.int .i64 x.p11) ?_ (hrun := by have q : w3.cell? ⟨b1, 11, none⟩ = some (.int .i64 x.p11) := K3.out.cell (i := 0) rfl (by rfl); go_simp)
            (try simp only [Act.put, gA, gS, gZ, sA, sZ, sS])
            refine wv (.bool false) ?_ (hrun := by have q := HS.out; go_simp)
            (try simp only [Act.put, gA, gS, gZ, sA, sZ, sS])
            refine wv (.bool false) ?_ (hrun := run_pick_no (.tmp 10) (.const (.bool true)) (.tmp 13) _ rfl rfl rfl)
            (try simp only [Act.put, gA, gS, gZ, sA, sZ, sS])
            refine wpList_nil ?_
            go_upto_region 3 with fail
            refine wp_region_lit ?_
            refine wv (.agg (poA ⟨x.p0, x.p1, x.p2, x.p3, x.p4, x.p5, x.p6, x.p7, x.p8, x.p9, x.p10, x.p11, x.p12, x.p13, x.p14, x.p15, x.p16, x.p17, x.p18, x.p19, x.p20⟩)) ?_ (hrun := kb_all K3.out 0 rfl 42 _ rfl rfl Try.underlying42 rfl (size50))
            (try simp only [Act.put, gA, gS, gZ, sA, sZ, sS])
            refine kb_alloc K3.out 42 (nil21) rfl z50 (by rfl) ?_
            intro b4 w4 hb4 hk
            have K4 := Lib.hid (show Kb w [(b1, poA ⟨x.p0, x.p1, x.p2, x.p3, x.p4, x.p5, x.p6, x.p7, x.p8, x.p9, x.p10, x.p11, x.p12, x.p13, x.p14, x.p15, x.p16, x.p17, x.p18, x.p19, x.p20⟩, 42), (b2, cfA c, 38), (b3, nil21, 42), (b4, nil21, 42)] w4 from hk)
            clear hk hb4
            (try simp only [Act.put, gA, gS, gZ, sA, sZ, sS])
            refine kb_row K4.out 3 rfl 42 _ _ (poA ⟨x.p0, x.p1, x.p2, x.p3, x.p4, x.p5, x.p6, x.p7, x.p8, x.p9, x.p10, x.p11, x.p12, x.p13, x.p14, x.p15, x.p16, x.p17, x.p18, x.p19, x.p20⟩) rfl rfl rfl rfl (size50) (by rfl) (po_all _) ?_
            intro w5 hk
            have K5 := Lib.hid (show Kb w [(b1, poA ⟨x.p0, x.p1, x.p2, x.p3, x.p4, x.p5, x.p6, x.p7, x.p8, x.p9, x.p10, x.p11, x.p12, x.p13, x.p14, x.p15, x.p16, x.p17, x.p18, x.p19, x.p20⟩, 42), (b2, cfA c, 38), (b3, nil21, 42), (b4, poA ⟨x.p0, x.p1, x.p2, x.p3, x.p4, x.p5, x.p6, x.p7, x.p8, x.p9, x.p10, x.p11, x.p12, x.p13, x.p14, x.p15, x.p16, x.p17, x.p18, x.p19, x.p20⟩, 42)] w5 from hk)
            clear hk
            (try simp only [Act.put, gA, gS, gZ, sA, sZ, sS])
            refine wpList_nil ?_
            go_upto_region 4 with fail
            refine wp_region_lit ?_
            refine wv (.pointer (some ⟨b1, 19, none⟩)) ?_
            (try simp only [Act.put, gA, gS, gZ, sA, sZ, sS])
            refine wv (.int .i64 x.p19) ?_ (hrun := by have q : w5.cell? ⟨b1, 19, none⟩ = some (.int .i64 x.p19) := K5.out.cell (i := 0) rfl (by rfl); go_simp)
            (try simp only [Act.put, gA, gS, gZ, sA, sZ, sS])
            refine wv (.int .i64 (IntKind.i64.wrap (x.p19 - 1))) ?_
            (try simp only [Act.put, gA, gS, gZ, sA, sZ, sS])
            refine wv (.pointer (some ⟨b1, 19, none⟩)) ?_
            (try simp only [Act.put, gA, gS, gZ, sA, sZ, sS])
            refine kb_set K5.out 0 rfl 3 _ _ 19 (.int .i64 (IntKind.i64.wrap (x.p19 - 1))) rfl (by rfl) rfl rfl (kb_run_set K5.out (i := 0) rfl 3 19 (.int .i64 x.p19) (.int .i64 (IntKind.i64.wrap (x.p19 - 1))) (by rfl) (fun W h1 h2 => by go_simp)) (poA ⟨x.p0, x.p1, x.p2, x.p3, x.p4, x.p5, x.p6, x.p7, x.p8, x.p9, x.p10, x.p11, x.p12, x.p13, x.p14, x.p15, x.p16, x.p17, x.p18, (IntKind.i64.wrap (x.p19 - 1)), x.p20⟩) (by kernel_rfl) ?_
            intro w6 hk
            have K6 := Lib.hid (show Kb w [(b1, poA ⟨x.p0, x.p1, x.p2, x.p3, x.p4, x.p5, x.p6, x.p7, x.p8, x.p9, x.p10, x.p11, x.p12, x.p13, x.p14, x.p15, x.p16, x.p17, x.p18, (IntKind.i64.wrap (x.p19 - 1)), x.p20⟩, 42), (b2, cfA c, 38), (b3, nil21, 42), (b4, poA ⟨x.p0, x.p1, x.p2, x.p3, x.p4, x.p5, x.p6, x.p7, x.p8, x.p9, x.p10, x.p11, x.p12, x.p13, x.p14, x.p15, x.p16, x.p17, x.p18, x.p19, x.p20⟩, 42)] w6 from hk)
            clear hk
            (try simp only [Act.put, gA, gS, gZ, sA, sZ, sS])
            refine wpList_nil ?_
            go_upto_region 5 with fail
            refine wp_region_lit ?_
            refine wv (.pointer (some ⟨b4, 19, none⟩)) ?_
            (try simp only [Act.put, gA, gS, gZ, sA, sZ, sS])
            refine wv (.int .i64 x.p19) ?_ (hrun := by have q : w6.cell? ⟨b4, 19, none⟩ = some (.int .i64 x.p19) := K6.out.cell (i := 3) rfl (by rfl); go_simp)
            (try simp only [Act.put, gA, gS, gZ, sA, sZ, sS])
            refine wv (.bool false) ?_ (hrun := by have q := HL.out; go_simp)
            (try simp only [Act.put, gA, gS, gZ, sA, sZ, sS])
            refine wpList_nil ?_
            go_upto_region 7 with fail
            refine wp_region_lit ?_
            refine wv (.pointer (some ⟨b1, 11, none⟩)) ?_
            (try simp only [Act.put, gA, gS, gZ, sA, sZ, sS])
            refine wv (.int .i64 x.p11) ?_ (hrun := by have q : w6.cell? ⟨b1, 11, none⟩ = some (.int .i64 x.p11) := K6.out.cell (i := 0) rfl (by rfl); go_simp)
            (try simp only [Act.put, gA, gS, gZ, sA, sZ, sS])
            refine wpList_nil ?_
            go_upto_region 8 with fail
            refine wp_region_lit ?_
            refine wv (.bool false) ?_ (hrun := by have q := HZ.out; go_simp)
            (try simp only [Act.put, gA, gS, gZ, sA, sZ, sS])
            refine wv (.bool false) ?_
            (try simp only [Act.put, gA, gS, gZ, sA, sZ, sS])
            refine wpList_nil ?_
            go_upto_region 10 with fail
            refine wp_region_lit ?_
            refine wv (.bool false) ?_ (hrun := by have q := HY.out; go_simp)
            (try simp only [Act.put, gA, gS, gZ, sA, sZ, sS])
            refine wv (.bool false) ?_
            (try simp only [Act.put, gA, gS, gZ, sA, sZ, sS])
            refine wpList_nil ?_
            go_upto_region 12 with fail
            refine wp_region_inv_dc (I := fun L ac w' => ac = StB6 x c b1 b2 b3 b4 L ∧ Kb w [(b1, poA ⟨x.p0, x.p1, x.p2, x.p3, x.p4, x.p5, x.p6, x.p7, x.p8, x.p9, x.p10, x.p11, x.p12, x.p13, x.p14, x.p15, x.p16, x.p17, x.p18, (IntKind.i64.wrap (x.p19 - 1)), x.p20⟩, 42), (b2, cfA c, 38), (b3, bif L 4 then poA ⟨x.p0, x.p1, x.p2, x.p3, x.p4, x.p5, x.p6, x.p7, x.p8, x.p9, x.p10, x.p11, x.p12, x.p13, x.p14, x.p15, x.p16, x.p17, x.p18, (IntKind.i64.wrap (x.p19 - 1)), x.p20⟩ else nil21, 42), (b4, poA ⟨x.p0, x.p1, x.p2, x.p3, x.p4, x.p5, x.p6, x.p7, x.p8, x.p9, x.p10, x.p11, x.p12, x.p13, x.p14, x.p15, x.p16, x.p17, x.p18, x.p19, x.p20⟩, 42)] w') (by kernel_rfl) (by kernel_rfl) ⟨by kernel_rfl, K6.out.drew⟩ ?_ ?_
            · intro i hi Lx ac w' hI hL haft hdc
              obtain ⟨rfl, hw⟩ := hI
              match i, hi with
              | 0, _ =>
                have g2 : (StB6 x c b1 b2 b3 b4 Lx).tmps[2]?.getD undef = .pointer (some ⟨b1, 0, none⟩) := by kernel_rfl
                have e2 : (StB6 x c b1 b2 b3 b4 Lx).eval (.tmp 2) = .pointer (some ⟨b1, 0, none⟩) := by kernel_rfl
                exact i_val rfl (.agg (poA ⟨x.p0, x.p1, x.p2, x.p3, x.p4, x.p5, x.p6, x.p7, x.p8, x.p9, x.p10, x.p11, x.p12, x.p13, x.p14, x.p15, x.p16, x.p17, x.p18, (IntKind.i64.wrap (x.p19 - 1)), x.p20⟩)) w' (by rfl) (kb_all hw 0 rfl 42 _ rfl e2 Try.underlying42 rfl (size50)) ⟨by kernel_rfl, hw⟩
              | 1, _ =>
                have g6 : (StB6 x c b1 b2 b3 b4 Lx).tmps[6]?.getD undef = .pointer (some ⟨b4, 0, none⟩) := by kernel_rfl
                have e6 : (StB6 x c b1 b2 b3 b4 Lx).eval (.tmp 6) = .pointer (some ⟨b4, 0, none⟩) := by kernel_rfl
                exact i_val rfl (.agg (poA ⟨x.p0, x.p1, x.p2, x.p3, x.p4, x.p5, x.p6, x.p7, x.p8, x.p9, x.p10, x.p11, x.p12, x.p13, x.p14, x.p15, x.p16, x.p17, x.p18, x.p19, x.p20⟩)) w' (by rfl) (kb_all hw 3 rfl 42 _ rfl e6 Try.underlying42 rfl (size50)) ⟨by kernel_rfl, hw⟩
              | 2, _ =>
                have g2 : (StB6 x c b1 b2 b3 b4 Lx).tmps[2]?.getD undef = .pointer (some ⟨b1, 0, none⟩) := by kernel_rfl
                have e2 : (StB6 x c b1 b2 b3 b4 Lx).eval (.tmp 2) = .pointer (some ⟨b1, 0, none⟩) := by kernel_rfl
                exact i_val rfl (.agg (poA ⟨x.p0, x.p1, x.p2, x.p3, x.p4, x.p5, x.p6, x.p7, x.p8, x.p9, x.p10, x.p11, x.p12, x.p13, x.p14, x.p15, x.p16, x.p17, x.p18, (IntKind.i64.wrap (x.p19 - 1)), x.p20⟩)) w' (by rfl) (kb_all hw 0 rfl 42 _ rfl e2 Try.underlying42 rfl (size50)) ⟨by kernel_rfl, hw⟩
              | 3, _ =>
                have h1 := haft 1 (by decide)
                have e38 : (StB6 x c b1 b2 b3 b4 Lx).eval (.tmp 38) = .agg (poA ⟨x.p0, x.p1, x.p2, x.p3, x.p4, x.p5, x.p6, x.p7, x.p8, x.p9, x.p10, x.p11, x.p12, x.p13, x.p14, x.p15, x.p16, x.p17, x.p18, x.p19, x.p20⟩) := by show (bif Lx 1 then _ else _) = _; rw [h1]; rfl
                have g38 : (StB6 x c b1 b2 b3 b4 Lx).tmps[38]?.getD undef = .agg (poA ⟨x.p0, x.p1, x.p2, x.p3, x.p4, x.p5, x.p6, x.p7, x.p8, x.p9, x.p10, x.p11, x.p12, x.p13, x.p14, x.p15, x.p16, x.p17, x.p18, x.p19, x.p20⟩) := by show (bif Lx 1 then _ else _) = _; rw [h1]; rfl
                have h2 := haft 2 (by decide)
                have e39 : (StB6 x c b1 b2 b3 b4 Lx).eval (.tmp 39) = .agg (poA ⟨x.p0, x.p1, x.p2, x.p3, x.p4, x.p5, x.p6, x.p7, x.p8, x.p9, x.p10, x.p11, x.p12, x.p13, x.p14, x.p15, x.p16, x.p17, x.p18, (IntKind.i64.wrap (x.p19 - 1)), x.p20⟩) := by show (bif Lx 2 then _ else _) = _; rw [h2]; rfl
                have g39 : (StB6 x c b1 b2 b3 b4 Lx).tmps[39]?.getD undef = .agg (poA ⟨x.p0, x.p1, x.p2, x.p3, x.p4, x.p5, x.p6, x.p7, x.p8, x.p9, x.p10, x.p11, x.p12, x.p13, x.p14, x.p15, x.p16, x.p17, x.p18, (IntKind.i64.wrap (x.p19 - 1)), x.p20⟩) := by show (bif Lx 2 then _ else _) = _; rw [h2]; rfl
                exact i_call rfl (.bool false) 16 #[.agg (poA ⟨x.p0, x.p1, x.p2, x.p3, x.p4, x.p5, x.p6, x.p7, x.p8, x.p9, x.p10, x.p11, x.p12, x.p13, x.p14, x.p15, x.p16, x.p17, x.p18, x.p19, x.p20⟩), .agg (poA ⟨x.p0, x.p1, x.p2, x.p3, x.p4, x.p5, x.p6, x.p7, x.p8, x.p9, x.p10, x.p11, x.p12, x.p13, x.p14, x.p15, x.p16, x.p17, x.p18, (IntKind.i64.wrap (x.p19 - 1)), x.p20⟩)] (fun w2 => Below w'.heap.size w' w2) (by rfl) (by go_simp) (opened_is ⟨x.p0, x.p1, x.p2, x.p3, x.p4, x.p5, x.p6, x.p7, x.p8, x.p9, x.p10, x.p11, x.p12, x.p13, x.p14, x.p15, x.p16, x.p17, x.p18, x.p19, x.p20⟩ ⟨x.p0, x.p1, x.p2, x.p3, x.p4, x.p5, x.p6, x.p7, x.p8, x.p9, x.p10, x.p11, x.p12, x.p13, x.p14, x.p15, x.p16, x.p17, x.p18, (IntKind.i64.wrap (x.p19 - 1)), x.p20⟩ false HOP.out w') (fun w2 hb => ⟨by kernel_rfl, hw.next hb⟩)
              | 4, _ =>
                have g4 : (StB6 x c b1 b2 b3 b4 Lx).tmps[4]?.getD undef = .pointer (some ⟨b3, 0, none⟩) := by kernel_rfl
                have e4 : (StB6 x c b1 b2 b3 b4 Lx).eval (.tmp 4) = .pointer (some ⟨b3, 0, none⟩) := by kernel_rfl
                have h0 := haft 0 (by decide)
                have e37 : (StB6 x c b1 b2 b3 b4 Lx).eval (.tmp 37) = .agg (poA ⟨x.p0, x.p1, x.p2, x.p3, x.p4, x.p5, x.p6, x.p7, x.p8, x.p9, x.p10, x.p11, x.p12, x.p13, x.p14, x.p15, x.p16, x.p17, x.p18, (IntKind.i64.wrap (x.p19 - 1)), x.p20⟩) := by show (bif Lx 0 then _ else _) = _; rw [h0]; rfl
                have g37 : (StB6 x c b1 b2 b3 b4 Lx).tmps[37]?.getD undef = .agg (poA ⟨x.p0, x.p1, x.p2, x.p3, x.p4, x.p5, x.p6, x.p7, x.p8, x.p9, x.p10, x.p11, x.p12, x.p13, x.p14, x.p15, x.p16, x.p17, x.p18, (IntKind.i64.wrap (x.p19 - 1)), x.p20⟩) := by show (bif Lx 0 then _ else _) = _; rw [h0]; rfl
                exact i_wp rfl (by rfl) (wp_store_row 42 _ _ rfl b3 (poA ⟨x.p0, x.p1, x.p2, x.p3, x.p4, x.p5, x.p6, x.p7, x.p8, x.p9, x.p10, x.p11, x.p12, x.p13, x.p14, x.p15, x.p16, x.p17, x.p18, (IntKind.i64.wrap (x.p19 - 1)), x.p20⟩) e4 e37 42 (bif Lx 4 then poA ⟨x.p0, x.p1, x.p2, x.p3, x.p4, x.p5, x.p6, x.p7, x.p8, x.p9, x.p10, x.p11, x.p12, x.p13, x.p14, x.p15, x.p16, x.p17, x.p18, (IntKind.i64.wrap (x.p19 - 1)), x.p20⟩ else nil21) (Kb.at (i := 2) hw rfl) (size50) (by rw [hL]; rfl) (po_all _) ⟨by kernel_rfl, cast_blk (Kb.row (i := 2) hw rfl (poA ⟨x.p0, x.p1, x.p2, x.p3, x.p4, x.p5, x.p6, x.p7, x.p8, x.p9, x.p10, x.p11, x.p12, x.p13, x.p14, x.p15, x.p16, x.p17, x.p18, (IntKind.i64.wrap (x.p19 - 1)), x.p20⟩)) (by rfl)⟩)
              | 5, _ =>
                have h3 := haft 3 (by decide)
                have e40 : (StB6 x c b1 b2 b3 b4 Lx).eval (.tmp 40) = .bool false := by show (bif Lx 3 then _ else _) = _; rw [h3]; rfl
                have g40 : (StB6 x c b1 b2 b3 b4 Lx).tmps[40]?.getD undef = .bool false := by show (bif Lx 3 then _ else _) = _; rw [h3]; rfl
                exact i_val rfl (.bool false) w' (by rfl) (by go_simp) ⟨by kernel_rfl, hw⟩
              | k + 6, h =>
                exfalso
                have h2 : k + 6 < 6 := h
                omega
            intro Lx ac w7 hI hall
            obtain ⟨rfl, hw⟩ := hI
            have hfr : StB6 x c b1 b2 b3 b4 Lx = { tmps := #[.agg (poA ⟨x.p0, x.p1, x.p2, x.p3, x.p4, x.p5, x.p6, x.p7, x.p8, x.p9, x.p10, x.p11, x.p12, x.p13, x.p14, x.p15, x.p16, x.p17, x.p18, x.p19, x.p20⟩), .agg (cfA c), .pointer (some ⟨b1, 0, none⟩), .pointer (some ⟨b2, 0, none⟩), .pointer (some ⟨b3, 0, none⟩), .bool false, .pointer (some ⟨b4, 0, none⟩), .pointer (some ⟨b1, 10, none⟩), .int .i64 x.p10, .bool false, .bool false, .pointer (some ⟨b1, 11, none⟩), .int .i64 x.p11, .bool false, .bool false, undef, .agg (poA ⟨x.p0, x.p1, x.p2, x.p3, x.p4, x.p5, x.p6, x.p7, x.p8, x.p9, x.p10, x.p11, x.p12, x.p13, x.p14, x.p15, x.p16, x.p17, x.p18, x.p19, x.p20⟩), .pointer (some ⟨b1, 19, none⟩), .int .i64 x.p19, .int .i64 (IntKind.i64.wrap (x.p19 - 1)), .pointer (some ⟨b1, 19, none⟩), .pointer (some ⟨b4, 19, none⟩), .int .i64 x.p19, .bool false, undef, .pointer (some ⟨b1, 11, none⟩), .int .i64 x.p11, .bool false, .bool false, undef, undef, undef, undef, .bool false, .bool false, undef, undef, .agg (poA ⟨x.p0, x.p1, x.p2, x.p3, x.p4, x.p5, x.p6, x.p7, x.p8, x.p9, x.p10, x.p11, x.p12, x.p13, x.p14, x.p15, x.p16, x.p17, x.p18, (IntKind.i64.wrap (x.p19 - 1)), x.p20⟩), .agg (poA ⟨x.p0, x.p1, x.p2, x.p3, x.p4, x.p5, x.p6, x.p7, x.p8, x.p9, x.p10, x.p11, x.p12, x.p13, x.p14, x.p15, x.p16, x.p17, x.p18, x.p19, x.p20⟩), .agg (poA ⟨x.p0, x.p1, x.p2, x.p3, x.p4, x.p5, x.p6, x.p7, x.p8, x.p9, x.p10, x.p11, x.p12, x.p13, x.p14, x.p15, x.p16, x.p17, x.p18, (IntKind.i64.wrap (x.p19 - 1)), x.p20⟩), .bool false], defers := [] } := by unfold StB6; simp only [hall 0 (by decide), hall 1 (by decide), hall 2 (by decide), hall 3 (by decide), hall 5 (by decide), cond_true]
            rw [hfr]
            clear hfr
            have hL4 := hall 4 (by decide)
            simp only [hL4, cond_true] at hw
            have K7 := Lib.hid (show Kb w [(b1, poA ⟨x.p0, x.p1, x.p2, x.p3, x.p4, x.p5, x.p6, x.p7, x.p8, x.p9, x.p10, x.p11, x.p12, x.p13, x.p14, x.p15, x.p16, x.p17, x.p18, (IntKind.i64.wrap (x.p19 - 1)), x.p20⟩, 42), (b2, cfA c, 38), (b3, poA ⟨x.p0, x.p1, x.p2, x.p3, x.p4, x.p5, x.p6, x.p7, x.p8, x.p9, x.p10, x.p11, x.p12, x.p13, x.p14, x.p15, x.p16, x.p17, x.p18, (IntKind.i64.wrap (x.p19 - 1)), x.p20⟩, 42), (b4, poA ⟨x.p0, x.p1, x.p2, x.p3, x.p4, x.p5, x.p6, x.p7, x.p8, x.p9, x.p10, x.p11, x.p12, x.p13, x.p14, x.p15, x.p16, x.p17, x.p18, x.p19, x.p20⟩, 42)] w7 from hw)
            clear hw hall hL4
            go_wp2_with fail
            refine bodyPost_ret (v := .tuple #[.agg (poA ⟨x.p0, x.p1, x.p2, x.p3, x.p4, x.p5, x.p6, x.p7, x.p8, x.p9, x.p10, x.p11, x.p12, x.p13, x.p14, x.p15, x.p16, x.p17, x.p18, (IntKind.i64.wrap (x.p19 - 1)), x.p20⟩), .bool false]) (results_row_tmp Try.results10 _ _ b3 42 (poA ⟨x.p0, x.p1, x.p2, x.p3, x.p4, x.p5, x.p6, x.p7, x.p8, x.p9, x.p10, x.p11, x.p12, x.p13, x.p14, x.p15, x.p16, x.p17, x.p18, (IntKind.i64.wrap (x.p19 - 1)), x.p20⟩) (.bool false) _ rfl rfl (K7.out.at (i := 2) rfl) Try.underlying42 rfl (po_info _)) rfl ?_
            exact ⟨rfl, K7.out.below⟩
end Go.Proofs.Yteeinlbhcdpnnaa
