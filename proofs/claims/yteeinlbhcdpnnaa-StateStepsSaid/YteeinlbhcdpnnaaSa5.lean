/- Agree, Block. -/
import Derived.Test.YteeinlbhcdpnnaaSa1
namespace Go.Proofs.Yteeinlbhcdpnnaa
open Go.RowKit
attribute [local irreducible] wpQuiet wpList
set_option linter.unusedSimpArgs false
set_option linter.unusedVariables false

/-- The slots, while the region runs. -/
def AgA (x : Po) (op : Bool) (b1 b2 b3 : Nat) (L : Nat → Bool) : Act := { tmps := #[.agg (poA ⟨x.p0, x.p1, x.p2, x.p3, x.p4, x.p5, x.p6, x.p7, x.p8, x.p9, x.p10, x.p11, x.p12, x.p13, x.p14, x.p15, x.p16, x.p17, x.p18, x.p19, x.p20⟩), .pointer (some ⟨b1, 0, none⟩), .pointer (some ⟨b2, 0, none⟩), bif L 5 then .bool op else .bool false, .pointer (some ⟨b3, 0, none⟩), .pointer (some ⟨b1, 10, none⟩), .int .i64 x.p10, .bool false, undef, .agg (poA ⟨x.p0, x.p1, x.p2, x.p3, x.p4, x.p5, x.p6, x.p7, x.p8, x.p9, x.p10, x.p11, x.p12, x.p13, x.p14, x.p15, x.p16, x.p17, x.p18, x.p19, x.p20⟩), .pointer (some ⟨b1, 9, none⟩), .pointer (some ⟨b1, 11, none⟩), .pointer (some ⟨b1, 19, none⟩), bif L 0 then .agg (poA ⟨x.p0, x.p1, x.p2, x.p3, x.p4, x.p5, x.p6, x.p7, x.p8, true, x.p10, 2, x.p12, x.p13, x.p14, x.p15, x.p16, x.p17, x.p18, 0, x.p20⟩) else undef, bif L 1 then .agg (poA ⟨x.p0, x.p1, x.p2, x.p3, x.p4, x.p5, x.p6, x.p7, x.p8, x.p9, x.p10, x.p11, x.p12, x.p13, x.p14, x.p15, x.p16, x.p17, x.p18, x.p19, x.p20⟩) else undef, bif L 2 then .agg (poA ⟨x.p0, x.p1, x.p2, x.p3, x.p4, x.p5, x.p6, x.p7, x.p8, true, x.p10, 2, x.p12, x.p13, x.p14, x.p15, x.p16, x.p17, x.p18, 0, x.p20⟩) else undef, bif L 3 then .bool op else undef], defers := [] }
set_option maxRecDepth 100000 in
set_option maxHeartbeats 8000000 in
theorem agree_any (x : Po) (w : World) : Calls Try.prog 11 #[poV x] w fun e w' => e = .returned (.tuple #[poV (agreeP x), .bool (openedB x (agreeP x))]) ∧ Below w.heap.size w w' := by
  by_cases hr : x.p10 = 4
  case neg =>
    have hP : agreeP x = ⟨x.p0, x.p1, x.p2, x.p3, x.p4, x.p5, x.p6, x.p7, x.p8, x.p9, x.p10, x.p11, x.p12, x.p13, x.p14, x.p15, x.p16, x.p17, x.p18, x.p19, x.p20⟩ := by simp [agreeP, hr]
    rw [hP]
    obtain ⟨op, hO⟩ : ∃ b, b = openedB x ⟨x.p0, x.p1, x.p2, x.p3, x.p4, x.p5, x.p6, x.p7, x.p8, x.p9, x.p10, x.p11, x.p12, x.p13, x.p14, x.p15, x.p16, x.p17, x.p18, x.p19, x.p20⟩ := ⟨_, rfl⟩
    rw [← hO]
    obtain rfl : op = false := by rw [hO]; simp [openedB]
    have HOP := Lib.hid hO.symm
    clear hP hO
    have K := Lib.hid (Kb.nil w)
    go_enter Try.func11, Try.ntmps11
    go_upto_region 0 with fail
    refine wp_region_lit ?_
    refine kb_box K.out 42 (.tmp 0) (poA ⟨x.p0, x.p1, x.p2, x.p3, x.p4, x.p5, x.p6, x.p7, x.p8, x.p9, x.p10, x.p11, x.p12, x.p13, x.p14, x.p15, x.p16, x.p17, x.p18, x.p19, x.p20⟩) rfl rfl (by rfl) ?_
    intro b1 w1 hb1 hk
    have K1 := Lib.hid (show Kb w [(b1, poA ⟨x.p0, x.p1, x.p2, x.p3, x.p4, x.p5, x.p6, x.p7, x.p8, x.p9, x.p10, x.p11, x.p12, x.p13, x.p14, x.p15, x.p16, x.p17, x.p18, x.p19, x.p20⟩, 42)] w1 from hk)
    clear hk hb1
    (try simp only [Act.put, gA, gS, gZ, sA, sZ, sS])
    refine kb_alloc K1.out 42 (nil21) rfl z50 (by rfl) ?_
    intro b2 w2 hb2 hk
    have K2 := Lib.hid (show Kb w [(b1, poA ⟨x.p0, x.p1, x.p2, x.p3, x.p4, x.p5, x.p6, x.p7, x.p8, x.p9, x.p10, x.p11, x.p12, x.p13, x.p14, x.p15, x.p16, x.p17, x.p18, x.p19, x.p20⟩, 42), (b2, nil21, 42)] w2 from hk)
    clear hk hb2
    (try simp only [Act.put, gA, gS, gZ, sA, sZ, sS])
    refine wv (.bool false) ?_
    (try simp only [Act.put, gA, gS, gZ, sA, sZ, sS])
    refine wpList_nil ?_
    go_upto_region 1 with fail
    refine wp_region_lit ?_
    refine wv (.pointer (some ⟨b1, 10, none⟩)) ?_
    (try simp only [Act.put, gA, gS, gZ, sA, sZ, sS])
    refine wv (.int .i64 x.p10) ?_ (hrun := by have q : w2.cell? ⟨b1, 10, none⟩ = some (.int .i64 x.p10) := K2.out.cell (i := 0) rfl (by rfl); go_simp)
    (try simp only [Act.put, gA, gS, gZ, sA, sZ, sS])
    refine wv (.bool true) ?_ (hrun := by have q := hr; go_simp)
    (try simp only [Act.put, gA, gS, gZ, sA, sZ, sS])
    refine wpList_nil ?_
    go_upto_region 2 with fail
    refine wp_region_lit ?_
    refine wv (.agg (poA ⟨x.p0, x.p1, x.p2, x.p3, x.p4, x.p5, x.p6, x.p7, x.p8, x.p9, x.p10, x.p11, x.p12, x.p13, x.p14, x.p15, x.p16, x.p17, x.p18, x.p19, x.p20⟩)) ?_ (hrun := kb_all K2.out 0 rfl 42 _ rfl rfl Try.underlying42 rfl (size50))
    (try simp only [Act.put, gA, gS, gZ, sA, sZ, sS])
    refine kb_row K2.out 1 rfl 42 _ _ (poA ⟨x.p0, x.p1, x.p2, x.p3, x.p4, x.p5, x.p6, x.p7, x.p8, x.p9, x.p10, x.p11, x.p12, x.p13, x.p14, x.p15, x.p16, x.p17, x.p18, x.p19, x.p20⟩) rfl rfl rfl rfl (size50) (by rfl) (po_all _) ?_
    intro w3 hk
    have K3 := Lib.hid (show Kb w [(b1, poA ⟨x.p0, x.p1, x.p2, x.p3, x.p4, x.p5, x.p6, x.p7, x.p8, x.p9, x.p10, x.p11, x.p12, x.p13, x.p14, x.p15, x.p16, x.p17, x.p18, x.p19, x.p20⟩, 42), (b2, poA ⟨x.p0, x.p1, x.p2, x.p3, x.p4, x.p5, x.p6, x.p7, x.p8, x.p9, x.p10, x.p11, x.p12, x.p13, x.p14, x.p15, x.p16, x.p17, x.p18, x.p19, x.p20⟩, 42)] w3 from hk)
    clear hk
    (try simp only [Act.put, gA, gS, gZ, sA, sZ, sS])
    refine wv (.bool false) ?_
    (try simp only [Act.put, gA, gS, gZ, sA, sZ, sS])
    refine wpList_nil ?_
    go_wp2_with fail
    refine bodyPost_ret (v := .tuple #[.agg (poA ⟨x.p0, x.p1, x.p2, x.p3, x.p4, x.p5, x.p6, x.p7, x.p8, x.p9, x.p10, x.p11, x.p12, x.p13, x.p14, x.p15, x.p16, x.p17, x.p18, x.p19, x.p20⟩), .bool false]) (results_row_tmp Try.results11 _ _ b2 42 (poA ⟨x.p0, x.p1, x.p2, x.p3, x.p4, x.p5, x.p6, x.p7, x.p8, x.p9, x.p10, x.p11, x.p12, x.p13, x.p14, x.p15, x.p16, x.p17, x.p18, x.p19, x.p20⟩) (.bool false) _ rfl rfl (K3.out.at (i := 1) rfl) Try.underlying42 rfl (po_info _)) rfl ?_
    exact ⟨rfl, K3.out.below⟩
  case pos =>
    have hP : agreeP x = ⟨x.p0, x.p1, x.p2, x.p3, x.p4, x.p5, x.p6, x.p7, x.p8, true, x.p10, 2, x.p12, x.p13, x.p14, x.p15, x.p16, x.p17, x.p18, 0, x.p20⟩ := by simp [agreeP, hr]
    rw [hP]
    obtain ⟨op, hO⟩ : ∃ b, b = openedB x ⟨x.p0, x.p1, x.p2, x.p3, x.p4, x.p5, x.p6, x.p7, x.p8, true, x.p10, 2, x.p12, x.p13, x.p14, x.p15, x.p16, x.p17, x.p18, 0, x.p20⟩ := ⟨_, rfl⟩
    rw [← hO]
    have HOP := Lib.hid hO.symm
    clear hP hO
    have K := Lib.hid (Kb.nil w)
    go_enter Try.func11, Try.ntmps11
    go_upto_region 0 with fail
    refine wp_region_lit ?_
    refine kb_box K.out 42 (.tmp 0) (poA ⟨x.p0, x.p1, x.p2, x.p3, x.p4, x.p5, x.p6, x.p7, x.p8, x.p9, x.p10, x.p11, x.p12, x.p13, x.p14, x.p15, x.p16, x.p17, x.p18, x.p19, x.p20⟩) rfl rfl (by rfl) ?_
    intro b1 w1 hb1 hk
    have K1 := Lib.hid (show Kb w [(b1, poA ⟨x.p0, x.p1, x.p2, x.p3, x.p4, x.p5, x.p6, x.p7, x.p8, x.p9, x.p10, x.p11, x.p12, x.p13, x.p14, x.p15, x.p16, x.p17, x.p18, x.p19, x.p20⟩, 42)] w1 from hk)
    clear hk hb1
    (try simp only [Act.put, gA, gS, gZ, sA, sZ, sS])
    refine kb_alloc K1.out 42 (nil21) rfl z50 (by rfl) ?_
    intro b2 w2 hb2 hk
    have K2 := Lib.hid (show Kb w [(b1, poA ⟨x.p0, x.p1, x.p2, x.p3, x.p4, x.p5, x.p6, x.p7, x.p8, x.p9, x.p10, x.p11, x.p12, x.p13, x.p14, x.p15, x.p16, x.p17, x.p18, x.p19, x.p20⟩, 42), (b2, nil21, 42)] w2 from hk)
    clear hk hb2
    (try simp only [Act.put, gA, gS, gZ, sA, sZ, sS])
    refine wv (.bool false) ?_
    (try simp only [Act.put, gA, gS, gZ, sA, sZ, sS])
    refine wpList_nil ?_
    go_upto_region 1 with fail
    refine wp_region_lit ?_
    refine wv (.pointer (some ⟨b1, 10, none⟩)) ?_
    (try simp only [Act.put, gA, gS, gZ, sA, sZ, sS])
    refine wv (.int .i64 x.p10) ?_ (hrun := by have q : w2.cell? ⟨b1, 10, none⟩ = some (.int .i64 x.p10) := K2.out.cell (i := 0) rfl (by rfl); go_simp)
    (try simp only [Act.put, gA, gS, gZ, sA, sZ, sS])
    refine wv (.bool false) ?_ (hrun := by have q := hr; go_simp)
    (try simp only [Act.put, gA, gS, gZ, sA, sZ, sS])
    refine wpList_nil ?_
    go_upto_region 3 with fail
    refine wp_region_lit ?_
    refine wv (.agg (poA ⟨x.p0, x.p1, x.p2, x.p3, x.p4, x.p5, x.p6, x.p7, x.p8, x.p9, x.p10, x.p11, x.p12, x.p13, x.p14, x.p15, x.p16, x.p17, x.p18, x.p19, x.p20⟩)) ?_ (hrun := kb_all K2.out 0 rfl 42 _ rfl rfl Try.underlying42 rfl (size50))
    (try simp only [Act.put, gA, gS, gZ, sA, sZ, sS])
    refine kb_alloc K2.out 42 (nil21) rfl z50 (by rfl) ?_
    intro b3 w3 hb3 hk
    have K3 := Lib.hid (show Kb w [(b1, poA ⟨x.p0, x.p1, x.p2, x.p3, x.p4, x.p5, x.p6, x.p7, x.p8, x.p9, x.p10, x.p11, x.p12, x.p13, x.p14, x.p15, x.p16, x.p17, x.p18, x.p19, x.p20⟩, 42), (b2, nil21, 42), (b3, nil21, 42)] w3 from hk)
    clear hk hb3
    (try simp only [Act.put, gA, gS, gZ, sA, sZ, sS])
    refine kb_row K3.out 2 rfl 42 _ _ (poA ⟨x.p0, x.p1, x.p2, x.p3, x.p4, x.p5, x.p6, x.p7, x.p8, x.p9, x.p10, x.p11, x.p12, x.p13, x.p14, x.p15, x.p16, x.p17, x.p18, x.p19, x.p20⟩) rfl rfl rfl rfl (size50) (by rfl) (po_all _) ?_
    intro w4 hk
    have K4 := Lib.hid (show Kb w [(b1, poA ⟨x.p0, x.p1, x.p2, x.p3, x.p4, x.p5, x.p6, x.p7, x.p8, x.p9, x.p10, x.p11, x.p12, x.p13, x.p14, x.p15, x.p16, x.p17, x.p18, x.p19, x.p20⟩, 42), (b2, nil21, 42), (b3, poA ⟨x.p0, x.p1, x.p2, x.p3, x.p4, x.p5, x.p6, x.p7, x.p8, x.p9, x.p10, x.p11, x.p12, x.p13, x.p14, x.p15, x.p16, x.p17, x.p18, x.p19, x.p20⟩, 42)] w4 from hk)
    clear hk
    (try simp only [Act.put, gA, gS, gZ, sA, sZ, sS])
    refine wpList_nil ?_
    go_upto_region 4 with fail
    refine wp_region_lit ?_
    refine wv (.pointer (some ⟨b1, 9, none⟩)) ?_
    (try simp only [Act.put, gA, gS, gZ, sA, sZ, sS])
    refine kb_set K4.out 0 rfl 4 _ _ 9 (.bool true) rfl (by rfl) rfl rfl (kb_run_set K4.out (i := 0) rfl 4 9 (.bool x.p9) (.bool true) (by rfl) (fun W h1 h2 => by go_simp)) (poA ⟨x.p0, x.p1, x.p2, x.p3, x.p4, x.p5, x.p6, x.p7, x.p8, true, x.p10, x.p11, x.p12, x.p13, x.p14, x.p15, x.p16, x.p17, x.p18, x.p19, x.p20⟩) (by kernel_rfl) ?_
    intro w5 hk
    have K5 := Lib.hid (show Kb w [(b1, poA ⟨x.p0, x.p1, x.p2, x.p3, x.p4, x.p5, x.p6, x.p7, x.p8, true, x.p10, x.p11, x.p12, x.p13, x.p14, x.p15, x.p16, x.p17, x.p18, x.p19, x.p20⟩, 42), (b2, nil21, 42), (b3, poA ⟨x.p0, x.p1, x.p2, x.p3, x.p4, x.p5, x.p6, x.p7, x.p8, x.p9, x.p10, x.p11, x.p12, x.p13, x.p14, x.p15, x.p16, x.p17, x.p18, x.p19, x.p20⟩, 42)] w5 from hk)
    clear hk
    (try simp only [Act.put, gA, gS, gZ, sA, sZ, sS])
    refine wv (.pointer (some ⟨b1, 11, none⟩)) ?_
    (try simp only [Act.put, gA, gS, gZ, sA, sZ, sS])
    refine kb_set K5.out 0 rfl 3 _ _ 11 (.int .i64 2) rfl (by rfl) rfl rfl (kb_run_set K5.out (i := 0) rfl 3 11 (.int .i64 x.p11) (.int .i64 2) (by rfl) (fun W h1 h2 => by go_simp)) (poA ⟨x.p0, x.p1, x.p2, x.p3, x.p4, x.p5, x.p6, x.p7, x.p8, true, x.p10, 2, x.p12, x.p13, x.p14, x.p15, x.p16, x.p17, x.p18, x.p19, x.p20⟩) (by kernel_rfl) ?_
    intro w6 hk
    have K6 := Lib.hid (show Kb w [(b1, poA ⟨x.p0, x.p1, x.p2, x.p3, x.p4, x.p5, x.p6, x.p7, x.p8, true, x.p10, 2, x.p12, x.p13, x.p14, x.p15, x.p16, x.p17, x.p18, x.p19, x.p20⟩, 42), (b2, nil21, 42), (b3, poA ⟨x.p0, x.p1, x.p2, x.p3, x.p4, x.p5, x.p6, x.p7, x.p8, x.p9, x.p10, x.p11, x.p12, x.p13, x.p14, x.p15, x.p16, x.p17, x.p18, x.p19, x.p20⟩, 42)] w6 from hk)
    clear hk
    (try simp only [Act.put, gA, gS, gZ, sA, sZ, sS])
    refine wv (.pointer (some ⟨b1, 19, none⟩)) ?_
    (try simp only [Act.put, gA, gS, gZ, sA, sZ, sS])
    refine kb_set K6.out 0 rfl 3 _ _ 19 (.int .i64 0) rfl (by rfl) rfl rfl (kb_run_set K6.out (i := 0) rfl 3 19 (.int .i64 x.p19) (.int .i64 0) (by rfl) (fun W h1 h2 => by go_simp)) (poA ⟨x.p0, x.p1, x.p2, x.p3, x.p4, x.p5, x.p6, x.p7, x.p8, true, x.p10, 2, x.p12, x.p13, x.p14, x.p15, x.p16, x.p17, x.p18, 0, x.p20⟩) (by kernel_rfl) ?_
    intro w7 hk
    have K7 := Lib.hid (show Kb w [(b1, poA ⟨x.p0, x.p1, x.p2, x.p3, x.p4, x.p5, x.p6, x.p7, x.p8, true, x.p10, 2, x.p12, x.p13, x.p14, x.p15, x.p16, x.p17, x.p18, 0, x.p20⟩, 42), (b2, nil21, 42), (b3, poA ⟨x.p0, x.p1, x.p2, x.p3, x.p4, x.p5, x.p6, x.p7, x.p8, x.p9, x.p10, x.p11, x.p12, x.p13, x.p14, x.p15, x.p16, x.p17, x.p18, x.p19, x.p20⟩, 42)] w7 from hk)
    clear hk
    (try simp only [Act.put, gA, gS, gZ, sA, sZ, sS])
    refine wpList_nil ?_
    go_upto_region 5 with fail
    refine wp_region_inv_dc (I := fun L ac w' => ac = AgA x op b1 b2 b3 L ∧ Kb w [(b1, poA ⟨x.p0, x.p1, x.p2, x.p3, x.p4, x.p5, x.p6, x.p7, x.p8, true, x.p10, 2, x.p12, x.p13, x.p14, x.p15, x.p16, x.p17, x.p18, 0, x.p20⟩, 42), (b2, bif L 4 then poA ⟨x.p0, x.p1, x.p2, x.p3, x.p4, x.p5, x.p6, x.p7, x.p8, true, x.p10, 2, x.p12, x.p13, x.p14, x.p15, x.p16, x.p17, x.p18, 0, x.p20⟩ else nil21, 42), (b3, poA ⟨x.p0, x.p1, x.p2, x.p3, x.p4, x.p5, x.p6, x.p7, x.p8, x.p9, x.p10, x.p11, x.p12, x.p13, x.p14, x.p15, x.p16, x.p17, x.p18, x.p19, x.p20⟩, 42)] w') (by kernel_rfl) (by kernel_rfl) ⟨by kernel_rfl, K7.out.drew⟩ ?_ ?_
    · intro i hi Lx ac w' hI hL haft hdc
      obtain ⟨rfl, hw⟩ := hI
      match i, hi with
      | 0, _ =>
        have g1 : (AgA x op b1 b2 b3 Lx).tmps[1]?.getD undef = .pointer (some ⟨b1, 0, none⟩) := by kernel_rfl
        have e1 : (AgA x op b1 b2 b3 Lx).eval (.tmp 1) = .pointer (some ⟨b1, 0, none⟩) := by kernel_rfl
        exact i_val rfl (.agg (poA ⟨x.p0, x.p1, x.p2, x.p3, x.p4, x.p5, x.p6, x.p7, x.p8, true, x.p10, 2, x.p12, x.p13, x.p14, x.p15, x.p16, x.p17, x.p18, 0, x.p20⟩)) w' (by rfl) (kb_all hw 0 rfl 42 _ rfl e1 Try.underlying42 rfl (size50)) ⟨by kernel_rfl, hw⟩
      | 1, _ =>
        have g4 : (AgA x op b1 b2 b3 Lx).tmps[4]?.getD undef = .pointer (some ⟨b3, 0, none⟩) := by kernel_rfl
        have e4 : (AgA x op b1 b2 b3 Lx).eval (.tmp 4) = .pointer (some ⟨b3, 0, none⟩) := by kernel_rfl
        exact i_val rfl (.agg (poA ⟨x.p0, x.p1, x.p2, x.p3, x.p4, x.p5, x.p6, x.p7, x.p8, x.p9, x.p10, x.p11, x.p12, x.p13, x.p14, x.p15, x.p16, x.p17, x.p18, x.p19, x.p20⟩)) w' (by rfl) (kb_all hw 2 rfl 42 _ rfl e4 Try.underlying42 rfl (size50)) ⟨by kernel_rfl, hw⟩
      | 2, _ =>
        have g1 : (AgA x op b1 b2 b3 Lx).tmps[1]?.getD undef = .pointer (some ⟨b1, 0, none⟩) := by kernel_rfl
        have e1 : (AgA x op b1 b2 b3 Lx).eval (.tmp 1) = .pointer (some ⟨b1, 0, none⟩) := by kernel_rfl
        exact i_val rfl (.agg (poA ⟨x.p0, x.p1, x.p2, x.p3, x.p4, x.p5, x.p6, x.p7, x.p8, true, x.p10, 2, x.p12, x.p13, x.p14, x.p15, x.p16, x.p17, x.p18, 0, x.p20⟩)) w' (by rfl) (kb_all hw 0 rfl 42 _ rfl e1 Try.underlying42 rfl (size50)) ⟨by kernel_rfl, hw⟩
      | 3, _ =>
        have h1 := haft 1 (by decide)
        have e14 : (AgA x op b1 b2 b3 Lx).eval (.tmp 14) = .agg (poA ⟨x.p0, x.p1, x.p2, x.p3, x.p4, x.p5, x.p6, x.p7, x.p8, x.p9, x.p10, x.p11, x.p12, x.p13, x.p14, x.p15, x.p16, x.p17, x.p18, x.p19, x.p20⟩) := by show (bif Lx 1 then _ else _) = _; rw [h1]; rfl
        have g14 : (AgA x op b1 b2 b3 Lx).tmps[14]?.getD undef = .agg (poA ⟨x.p0, x.p1, x.p2, x.p3, x.p4, x.p5, x.p6, x.p7, x.p8, x.p9, x.p10, x.p11, x.p12, x.p13, x.p14, x.p15, x.p16, x.p17, x.p18, x.p19, x.p20⟩) := by show (bif Lx 1 then _ else _) = _; rw [h1]; rfl
        have h2 := haft 2 (by decide)
        have e15 : (AgA x op b1 b2 b3 Lx).eval (.tmp 15) = .agg (poA ⟨x.p0, x.p1, x.p2, x.p3, x.p4, x.p5, x.p6, x.p7, x.p8, true, x.p10, 2, x.p12, x.p13, x.p14, x.p15, x.p16, x.p17, x.p18, 0, x.p20⟩) := by show (bif Lx 2 then _ else _) = _; rw [h2]; rfl
        have g15 : (AgA x op b1 b2 b3 Lx).tmps[15]?.getD undef = .agg (poA ⟨x.p0, x.p1, x.p2, x.p3, x.p4, x.p5, x.p6, x.p7, x.p8, true, x.p10, 2, x.p12, x.p13, x.p14, x.p15, x.p16, x.p17, x.p18, 0, x.p20⟩) := by show (bif Lx 2 then _ else _) = _; rw [h2]; rfl
        exact i_call rfl (.bool op) 16 #[.agg (poA ⟨x.p0, x.p1, x.p2, x.p3, x.p4, x.p5, x.p6, x.p7, x.p8, x.p9, x.p10, x.p11, x.p12, x.p13, x.p14, x.p15, x.p16, x.p17, x.p18, x.p19, x.p20⟩), .agg (poA ⟨x.p0, x.p1, x.p2, x.p3, x.p4, x.p5, x.p6, x.p7, x.p8, true, x.p10, 2, x.p12, x.p13, x.p14, x.p15, x.p16, x.p17, x.p18, 0, x.p20⟩)] (fun w2 => Below w'.heap.size w' w2) (by rfl) (by go_simp) (opened_is ⟨x.p0, x.p1, x.p2, x.p3, x.p4, x.p5, x.p6, x.p7, x.p8, x.p9, x.p10, x.p11, x.p12, x.p13, x.p14, x.p15, x.p16, x.p17, x.p18, x.p19, x.p20⟩ ⟨x.p0, x.p1, x.p2, x.p3, x.p4, x.p5, x.p6, x.p7, x.p8, true, x.p10, 2, x.p12, x.p13, x.p14, x.p15, x.p16, x.p17, x.p18, 0, x.p20⟩ op HOP.out w') (fun w2 hb => ⟨by kernel_rfl, hw.next hb⟩)
      | 4, _ =>
        have g2 : (AgA x op b1 b2 b3 Lx).tmps[2]?.getD undef = .pointer (some ⟨b2, 0, none⟩) := by kernel_rfl
        have e2 : (AgA x op b1 b2 b3 Lx).eval (.tmp 2) = .pointer (some ⟨b2, 0, none⟩) := by kernel_rfl
        have h0 := haft 0 (by decide)
        have e13 : (AgA x op b1 b2 b3 Lx).eval (.tmp 13) = .agg (poA ⟨x.p0, x.p1, x.p2, x.p3, x.p4, x.p5, x.p6, x.p7, x.p8, true, x.p10, 2, x.p12, x.p13, x.p14, x.p15, x.p16, x.p17, x.p18, 0, x.p20⟩) := by show (bif Lx 0 then _ else _) = _; rw [h0]; rfl
        have g13 : (AgA x op b1 b2 b3 Lx).tmps[13]?.getD undef = .agg (poA ⟨x.p0, x.p1, x.p2, x.p3, x.p4, x.p5, x.p6, x.p7, x.p8, true, x.p10, 2, x.p12, x.p13, x.p14, x.p15, x.p16, x.p17, x.p18, 0, x.p20⟩) := by show (bif Lx 0 then _ else _) = _; rw [h0]; rfl
        exact i_wp rfl (by rfl) (wp_store_row 42 _ _ rfl b2 (poA ⟨x.p0, x.p1, x.p2, x.p3, x.p4, x.p5, x.p6, x.p7, x.p8, true, x.p10, 2, x.p12, x.p13, x.p14, x.p15, x.p16, x.p17, x.p18, 0, x.p20⟩) e2 e13 42 (bif Lx 4 then poA ⟨x.p0, x.p1, x.p2, x.p3, x.p4, x.p5, x.p6, x.p7, x.p8, true, x.p10, 2, x.p12, x.p13, x.p14, x.p15, x.p16, x.p17, x.p18, 0, x.p20⟩ else nil21) (Kb.at (i := 1) hw rfl) (size50) (by rw [hL]; rfl) (po_all _) ⟨by kernel_rfl, cast_blk (Kb.row (i := 1) hw rfl (poA ⟨x.p0, x.p1, x.p2, x.p3, x.p4, x.p5, x.p6, x.p7, x.p8, true, x.p10, 2, x.p12, x.p13, x.p14, x.p15, x.p16, x.p17, x.p18, 0, x.p20⟩)) (by rfl)⟩)
      | 5, _ =>
        have h3 := haft 3 (by decide)
        have e16 : (AgA x op b1 b2 b3 Lx).eval (.tmp 16) = .bool op := by show (bif Lx 3 then _ else _) = _; rw [h3]; rfl
        have g16 : (AgA x op b1 b2 b3 Lx).tmps[16]?.getD undef = .bool op := by show (bif Lx 3 then _ else _) = _; rw [h3]; rfl
        exact i_val rfl (.bool op) w' (by rfl) (by go_simp) ⟨by kernel_rfl, hw⟩
      | k + 6, h =>
        exfalso
        have h2 : k + 6 < 6 := h
        omega
    intro Lx ac w8 hI hall
    obtain ⟨rfl, hw⟩ := hI
    have hfr : AgA x op b1 b2 b3 Lx = { tmps := #[.agg (poA ⟨x.p0, x.p1, x.p2, x.p3, x.p4, x.p5, x.p6, x.p7, x.p8, x.p9, x.p10, x.p11, x.p12, x.p13, x.p14, x.p15, x.p16, x.p17, x.p18, x.p19, x.p20⟩), .pointer (some ⟨b1, 0, none⟩), .pointer (some ⟨b2, 0, none⟩), .bool op, .pointer (some ⟨b3, 0, none⟩), .pointer (some ⟨b1, 10, none⟩), .int .i64 x.p10, .bool false, undef, .agg (poA ⟨x.p0, x.p1, x.p2, x.p3, x.p4, x.p5, x.p6, x.p7, x.p8, x.p9, x.p10, x.p11, x.p12, x.p13, x.p14, x.p15, x.p16, x.p17, x.p18, x.p19, x.p20⟩), .pointer (some ⟨b1, 9, none⟩), .pointer (some ⟨b1, 11, none⟩), .pointer (some ⟨b1, 19, none⟩), .agg (poA ⟨x.p0, x.p1, x.p2, x.p3, x.p4, x.p5, x.p6, x.p7, x.p8, true, x.p10, 2, x.p12, x.p13, x.p14, x.p15, x.p16, x.p17, x.p18, 0, x.p20⟩), .agg (poA ⟨x.p0, x.p1, x.p2, x.p3, x.p4, x.p5, x.p6, x.p7, x.p8, x.p9, x.p10, x.p11, x.p12, x.p13, x.p14, x.p15, x.p16, x.p17, x.p18, x.p19, x.p20⟩), .agg (poA ⟨x.p0, x.p1, x.p2, x.p3, x.p4, x.p5, x.p6, x.p7, x.p8, true, x.p10, 2, x.p12, x.p13, x.p14, x.p15, x.p16, x.p17, x.p18, 0, x.p20⟩), .bool op], defers := [] } := by unfold AgA; simp only [hall 0 (by decide), hall 1 (by decide), hall 2 (by decide), hall 3 (by decide), hall 5 (by decide), cond_true]
    rw [hfr]
    clear hfr
    have hL4 := hall 4 (by decide)
    simp only [hL4, cond_true] at hw
    have K8 := Lib.hid (show Kb w [(b1, poA ⟨x.p0, x.p1, x.p2, x.p3, x.p4, x.p5, x.p6, x.p7, x.p8, true, x.p10, 2, x.p12, x.p13, x.p14, x.p15, x.p16, x.p17, x.p18, 0, x.p20⟩, 42), (b2, poA ⟨x.p0, x.p1, x.p2, x.p3, x.p4, x.p5, x.p6, x.p7, x.p8, true, x.p10, 2, x.p12, x.p13, x.p14, x.p15, x.p16, x.p17, x.p18, 0, x.p20⟩, 42), (b3, poA ⟨x.p0, x.p1, x.p2, x.p3, x.p4, x.p5, x.p6, x.p7, x.p8, x.p9, x.p10, x.p11, x.p12, x.p13, x.p14, x.p15, x.p16, x.p17, x.p18, x.p19, x.p20⟩, 42)] w8 from hw)
    clear hw hall hL4
    go_wp2_with fail
    refine bodyPost_ret (v := .tuple #[.agg (poA ⟨x.p0, x.p1, x.p2, x.p3, x.p4, x.p5, x.p6, x.p7, x.p8, true, x.p10, 2, x.p12, x.p13, x.p14, x.p15, x.p16, x.p17, x.p18, 0, x.p20⟩), .bool op]) (results_row_tmp Try.results11 _ _ b2 42 (poA ⟨x.p0, x.p1, x.p2, x.p3, x.p4, x.p5, x.p6, x.p7, x.p8, true, x.p10, 2, x.p12, x.p13, x.p14, x.p15, x.p16, x.p17, x.p18, 0, x.p20⟩) (.bool op) _ rfl rfl (K8.out.at (i := 1) rfl) Try.underlying42 rfl (po_info _)) rfl ?_
    exact ⟨rfl, K8.out.below⟩
/-- The slots, while the region runs. -/
def BlA5 (x : Po) (c : Cf) (b1 b2 b3 : Nat) (L : Nat → Bool) : Act := { tmps := #[.agg (poA ⟨x.p0, x.p1, x.p2, x.p3, x.p4, x.p5, x.p6, x.p7, x.p8, false, x.p10, x.p11, x.p12, x.p13, x.p14, x.p15, x.p16, x.p17, x.p18, x.p19, x.p20⟩), .agg (cfA c), .pointer (some ⟨b1, 0, none⟩), .pointer (some ⟨b2, 0, none⟩), .pointer (some ⟨b3, 0, none⟩), .pointer (some ⟨b1, 10, none⟩), .int .i64 x.p10, .bool true, .bool true, .agg (poA ⟨x.p0, x.p1, x.p2, x.p3, x.p4, x.p5, x.p6, x.p7, x.p8, false, x.p10, x.p11, x.p12, x.p13, x.p14, x.p15, x.p16, x.p17, x.p18, x.p19, x.p20⟩), .bool false, .bool true, .bool true, .bool true, .pointer (some ⟨b1, 9, none⟩), .bool false, .bool true, .bool true, .bool true, .pointer (some ⟨b1, 11, none⟩), .int .i64 x.p11, .bool true, .bool true, bif L 0 then .pointer (some ⟨b2, 3, none⟩) else undef, bif L 1 then .int .i64 c.p3 else undef, bif L 2 then .pointer (some ⟨b1, 11, none⟩) else undef, bif L 4 then .pointer (some ⟨b1, 19, none⟩) else undef, undef], defers := [] }
set_option maxRecDepth 100000 in
set_option maxHeartbeats 8000000 in
theorem block_any (x : Po) (c : Cf) (w : World) : Calls Try.prog 12 #[poV x, cfV c] w fun e w' => e = .returned (poV (blockP x c.p3)) ∧ Below w.heap.size w w' := by
  by_cases hr : x.p10 = 4
  case neg =>
    have hP : blockP x c.p3 = ⟨x.p0, x.p1, x.p2, x.p3, x.p4, x.p5, x.p6, x.p7, x.p8, x.p9, x.p10, x.p11, x.p12, x.p13, x.p14, x.p15, x.p16, x.p17, x.p18, x.p19, x.p20⟩ := by unfold blockP; rw [if_neg (fun h => hr h.1)]
    rw [hP]
    clear hP
    have HR := Lib.hid hr
    clear hr
    have K := Lib.hid (Kb.nil w)
    go_enter Try.func12, Try.ntmps12
    go_upto_region 0 with fail
    refine wp_region_lit ?_
    refine kb_box K.out 42 (.tmp 0) (poA ⟨x.p0, x.p1, x.p2, x.p3, x.p4, x.p5, x.p6, x.p7, x.p8, x.p9, x.p10, x.p11, x.p12, x.p13, x.p14, x.p15, x.p16, x.p17, x.p18, x.p19, x.p20⟩) rfl rfl (by rfl) ?_
    intro b1 w1 hb1 hk
    have K1 := Lib.hid (show Kb w [(b1, poA ⟨x.p0, x.p1, x.p2, x.p3, x.p4, x.p5, x.p6, x.p7, x.p8, x.p9, x.p10, x.p11, x.p12, x.p13, x.p14, x.p15, x.p16, x.p17, x.p18, x.p19, x.p20⟩, 42)] w1 from hk)
    clear hk hb1
    (try simp only [Act.put, gA, gS, gZ, sA, sZ, sS])
    refine kb_box K1.out 38 (.tmp 1) (cfA c) rfl rfl (by rfl) ?_
    intro b2 w2 hb2 hk
    have K2 := Lib.hid (show Kb w [(b1, poA ⟨x.p0, x.p1, x.p2, x.p3, x.p4, x.p5, x.p6, x.p7, x.p8, x.p9, x.p10, x.p11, x.p12, x.p13, x.p14, x.p15, x.p16, x.p17, x.p18, x.p19, x.p20⟩, 42), (b2, cfA c, 38)] w2 from hk)
    clear hk hb2
    (try simp only [Act.put, gA, gS, gZ, sA, sZ, sS])
    refine kb_alloc K2.out 42 (nil21) rfl z50 (by rfl) ?_
    intro b3 w3 hb3 hk
    have K3 := Lib.hid (show Kb w [(b1, poA ⟨x.p0, x.p1, x.p2, x.p3, x.p4, x.p5, x.p6, x.p7, x.p8, x.p9, x.p10, x.p11, x.p12, x.p13, x.p14, x.p15, x.p16, x.p17, x.p18, x.p19, x.p20⟩, 42), (b2, cfA c, 38), (b3, nil21, 42)] w3 from hk)
    clear hk hb3
    (try simp only [Act.put, gA, gS, gZ, sA, sZ, sS])
    refine wpList_nil ?_
    go_upto_region 1 with fail
    refine wp_region_lit ?_
    refine wv (.pointer (some ⟨b1, 10, none⟩)) ?_
    (try simp only [Act.put, gA, gS, gZ, sA, sZ, sS])
    refine wv (.int .i64 x.p10) ?_ (hrun := by have q : w3.cell? ⟨b1, 10, none⟩ = some (.int .i64 x.p10) := K3.out.cell (i := 0) rfl (by rfl); go_simp)
    (try simp only [Act.put, gA, gS, gZ, sA, sZ, sS])
    refine wv (.bool false) ?_ (hrun := by have q := HR.out; go_simp)
    (try simp only [Act.put, gA, gS, gZ, sA, sZ, sS])
    refine wv (.bool false) ?_
    (try simp only [Act.put, gA, gS, gZ, sA, sZ, sS])
    refine wpList_skip (by kernel_rfl) ?_
    (try simp only [Act.put, gA, gS, gZ, sA, sZ, sS])
    refine wpList_skip (by kernel_rfl) ?_
    (try simp only [Act.put, gA, gS, gZ, sA, sZ, sS])
    refine wpList_skip (by kernel_rfl) ?_
    (try simp only [Act.put, gA, gS, gZ, sA, sZ, sS])
    refine wv (.bool false) ?_ (hrun := run_pick_no (.tmp 8) (.tmp 11) (.const (.bool false)) _ rfl rfl rfl)
    (try simp only [Act.put, gA, gS, gZ, sA, sZ, sS])
    refine wv (.bool false) ?_
    (try simp only [Act.put, gA, gS, gZ, sA, sZ, sS])
    refine wpList_skip (by kernel_rfl) ?_
    (try simp only [Act.put, gA, gS, gZ, sA, sZ, sS])
    refine wpList_skip (by kernel_rfl) ?_
    (try simp only [Act.put, gA, gS, gZ, sA, sZ, sS])
    refine wpList_skip (by kernel_rfl) ?_
    (try simp only [Act.put, gA, gS, gZ, sA, sZ, sS])
    refine wv (.bool false) ?_ (hrun := run_pick_no (.tmp 13) (.tmp 16) (.const (.bool false)) _ rfl rfl rfl)
    (try simp only [Act.put, gA, gS, gZ, sA, sZ, sS])
    refine wv (.bool false) ?_
    (try simp only [Act.put, gA, gS, gZ, sA, sZ, sS])
    refine wpList_skip (by kernel_rfl) ?_
    (try simp only [Act.put, gA, gS, gZ, sA, sZ, sS])
    refine wpList_skip (by kernel_rfl) ?_
    (try simp only [Act.put, gA, gS, gZ, sA, sZ, sS])
    refine wpList_skip (by kernel_rfl) ?_
    (try simp only [Act.put, gA, gS, gZ, sA, sZ, sS])
    refine wv (.bool false) ?_ (hrun := run_pick_no (.tmp 18) (.tmp 21) (.const (.bool false)) _ rfl rfl rfl)
    (try simp only [Act.put, gA, gS, gZ, sA, sZ, sS])
    refine wpList_nil ?_
    go_upto_region 3 with fail
    refine wp_region_lit ?_
    refine wv (.agg (poA ⟨x.p0, x.p1, x.p2, x.p3, x.p4, x.p5, x.p6, x.p7, x.p8, x.p9, x.p10, x.p11, x.p12, x.p13, x.p14, x.p15, x.p16, x.p17, x.p18, x.p19, x.p20⟩)) ?_ (hrun := kb_all K3.out 0 rfl 42 _ rfl rfl Try.underlying42 rfl (size50))
    (try simp only [Act.put, gA, gS, gZ, sA, sZ, sS])
    refine kb_row K3.out 2 rfl 42 _ _ (poA ⟨x.p0, x.p1, x.p2, x.p3, x.p4, x.p5, x.p6, x.p7, x.p8, x.p9, x.p10, x.p11, x.p12, x.p13, x.p14, x.p15, x.p16, x.p17, x.p18, x.p19, x.p20⟩) rfl rfl rfl rfl (size50) (by rfl) (po_all _) ?_
    intro w4 hk
    have K4 := Lib.hid (show Kb w [(b1, poA ⟨x.p0, x.p1, x.p2, x.p3, x.p4, x.p5, x.p6, x.p7, x.p8, x.p9, x.p10, x.p11, x.p12, x.p13, x.p14, x.p15, x.p16, x.p17, x.p18, x.p19, x.p20⟩, 42), (b2, cfA c, 38), (b3, poA ⟨x.p0, x.p1, x.p2, x.p3, x.p4, x.p5, x.p6, x.p7, x.p8, x.p9, x.p10, x.p11, x.p12, x.p13, x.p14, x.p15, x.p16, x.p17, x.p18, x.p19, x.p20⟩, 42)] w4 from hk)
    clear hk
    (try simp only [Act.put, gA, gS, gZ, sA, sZ, sS])
    refine wpList_nil ?_
    go_wp2_with fail
    refine bodyPost_ret (v := .agg (poA ⟨x.p0, x.p1, x.p2, x.p3, x.p4, x.p5, x.p6, x.p7, x.p8, x.p9, x.p10, x.p11, x.p12, x.p13, x.p14, x.p15, x.p16, x.p17, x.p18, x.p19, x.p20⟩)) (results_cell_row Try.results12 _ _ b3 42 (poA ⟨x.p0, x.p1, x.p2, x.p3, x.p4, x.p5, x.p6, x.p7, x.p8, x.p9, x.p10, x.p11, x.p12, x.p13, x.p14, x.p15, x.p16, x.p17, x.p18, x.p19, x.p20⟩) (0, 0) _ rfl (K4.out.at (i := 2) rfl) Try.underlying42 rfl (po_info _)) rfl ?_
    exact ⟨rfl, K4.out.below⟩
  case pos =>
    cases hed : edgeB x
    case true =>
      have hP : blockP x c.p3 = ⟨x.p0, x.p1, x.p2, x.p3, x.p4, x.p5, x.p6, x.p7, x.p8, x.p9, x.p10, x.p11, x.p12, x.p13, x.p14, x.p15, x.p16, x.p17, x.p18, x.p19, x.p20⟩ := by unfold blockP; rw [if_neg (fun h => by rw [hed] at h; exact Bool.noConfusion h.2.1)]
      rw [hP]
      clear hP
      have HR := Lib.hid hr
      clear hr
      have HED := Lib.hid (show edgeB ⟨x.p0, x.p1, x.p2, x.p3, x.p4, x.p5, x.p6, x.p7, x.p8, x.p9, x.p10, x.p11, x.p12, x.p13, x.p14, x.p15, x.p16, x.p17, x.p18, x.p19, x.p20⟩ = true from hed)
      clear hed
      have K := Lib.hid (Kb.nil w)
      go_enter Try.func12, Try.ntmps12
      go_upto_region 0 with fail
      refine wp_region_lit ?_
      refine kb_box K.out 42 (.tmp 0) (poA ⟨x.p0, x.p1, x.p2, x.p3, x.p4, x.p5, x.p6, x.p7, x.p8, x.p9, x.p10, x.p11, x.p12, x.p13, x.p14, x.p15, x.p16, x.p17, x.p18, x.p19, x.p20⟩) rfl rfl (by rfl) ?_
      intro b1 w1 hb1 hk
      have K1 := Lib.hid (show Kb w [(b1, poA ⟨x.p0, x.p1, x.p2, x.p3, x.p4, x.p5, x.p6, x.p7, x.p8, x.p9, x.p10, x.p11, x.p12, x.p13, x.p14, x.p15, x.p16, x.p17, x.p18, x.p19, x.p20⟩, 42)] w1 from hk)
      clear hk hb1
      (try simp only [Act.put, gA, gS, gZ, sA, sZ, sS])
      refine kb_box K1.out 38 (.tmp 1) (cfA c) rfl rfl (by rfl) ?_
      intro b2 w2 hb2 hk
      have K2 := Lib.hid (show Kb w [(b1, poA ⟨x.p0, x.p1, x.p2, x.p3, x.p4, x.p5, x.p6, x.p7, x.p8, x.p9, x.p10, x.p11, x.p12, x.p13, x.p14, x.p15, x.p16, x.p17, x.p18, x.p19, x.p20⟩, 42), (b2, cfA c, 38)] w2 from hk)
      clear hk hb2
      (try simp only [Act.put, gA, gS, gZ, sA, sZ, sS])
      refine kb_alloc K2.out 42 (nil21) rfl z50 (by rfl) ?_
      intro b3 w3 hb3 hk
      have K3 := Lib.hid (show Kb w [(b1, poA ⟨x.p0, x.p1, x.p2, x.p3, x.p4, x.p5, x.p6, x.p7, x.p8, x.p9, x.p10, x.p11, x.p12, x.p13, x.p14, x.p15, x.p16, x.p17, x.p18, x.p19, x.p20⟩, 42), (b2, cfA c, 38), (b3, nil21, 42)] w3 from hk)
      clear hk hb3
      (try simp only [Act.put, gA, gS, gZ, sA, sZ, sS])
      refine wpList_nil ?_
      go_upto_region 1 with fail
      refine wp_region_lit ?_
      refine wv (.pointer (some ⟨b1, 10, none⟩)) ?_
      (try simp only [Act.put, gA, gS, gZ, sA, sZ, sS])
      refine wv (.int .i64 x.p10) ?_ (hrun := by have q : w3.cell? ⟨b1, 10, none⟩ = some (.int .i64 x.p10) := K3.out.cell (i := 0) rfl (by rfl); go_simp)
      (try simp only [Act.put, gA, gS, gZ, sA, sZ, sS])
      refine wv (.bool true) ?_ (hrun := by have q := HR.out; go_simp)
      (try simp only [Act.put, gA, gS, gZ, sA, sZ, sS])
      refine wv (.bool true) ?_
      (try simp only [Act.put, gA, gS, gZ, sA, sZ, sS])
      refine wv (.agg (poA ⟨x.p0, x.p1, x.p2, x.p3, x.p4, x.p5, x.p6, x.p7, x.p8, x.p9, x.p10, x.p11, x.p12, x.p13, x.p14, x.p15, x.p16, x.p17, x.p18, x.p19, x.p20⟩)) ?_ (hrun := kb_all K3.out 0 rfl 42 _ rfl rfl Try.underlying42 rfl (size50))
      (try simp only [Act.put, gA, gS, gZ, sA, sZ, sS])
      refine kb_call K3.out 13 #[.agg (poA ⟨x.p0, x.p1, x.p2, x.p3, x.p4, x.p5, x.p6, x.p7, x.p8, x.p9, x.p10, x.p11, x.p12, x.p13, x.p14, x.p15, x.p16, x.p17, x.p18, x.p19, x.p20⟩)] (.bool true) (by rfl) (by go_simp) (edge_is ⟨x.p0, x.p1, x.p2, x.p3, x.p4, x.p5, x.p6, x.p7, x.p8, x.p9, x.p10, x.p11, x.p12, x.p13, x.p14, x.p15, x.p16, x.p17, x.p18, x.p19, x.p20⟩ true HED.out w3) ?_
      intro w4 hk
      have K4 := Lib.hid (show Kb w [(b1, poA ⟨x.p0, x.p1, x.p2, x.p3, x.p4, x.p5, x.p6, x.p7, x.p8, x.p9, x.p10, x.p11, x.p12, x.p13, x.p14, x.p15, x.p16, x.p17, x.p18, x.p19, x.p20⟩, 42), (b2, cfA c, 38), (b3, nil21, 42)] w4 from hk)
      clear hk
      (try simp only [Act.put, gA, gS, gZ, sA, sZ, sS])
      refine wv (.bool false) ?_
      (try simp only [Act.put, gA, gS, gZ, sA, sZ, sS])
      refine wv (.bool false) ?_ (hrun := run_pick_yes (.tmp 8) (.tmp 11) (.const (.bool false)) _ rfl rfl rfl)
      (try simp only [Act.put, gA, gS, gZ, sA, sZ, sS])
      refine wv (.bool false) ?_
      (try simp only [Act.put, gA, gS, gZ, sA, sZ, sS])
      refine wpList_skip (by kernel_rfl) ?_
      (try simp only [Act.put, gA, gS, gZ, sA, sZ, sS])
      refine wpList_skip (by kernel_rfl) ?_
      (try simp only [Act.put, gA, gS, gZ, sA, sZ, sS])
      refine wpList_skip (by kernel_rfl) ?_
      (try simp only [Act.put, gA, gS, gZ, sA, sZ, sS])
      refine wv (.bool false) ?_ (hrun := run_pick_no (.tmp 13) (.tmp 16) (.const (.bool false)) _ rfl rfl rfl)
      (try simp only [Act.put, gA, gS, gZ, sA, sZ, sS])
      refine wv (.bool false) ?_
      (try simp only [Act.put, gA, gS, gZ, sA, sZ, sS])
      refine wpList_skip (by kernel_rfl) ?_
      (try simp only [Act.put, gA, gS, gZ, sA, sZ, sS])
      refine wpList_skip (by kernel_rfl) ?_
      (try simp only [Act.put, gA, gS, gZ, sA, sZ, sS])
      refine wpList_skip (by kernel_rfl) ?_
      (try simp only [Act.put, gA, gS, gZ, sA, sZ, sS])
      refine wv (.bool false) ?_ (hrun := run_pick_no (.tmp 18) (.tmp 21) (.const (.bool false)) _ rfl rfl rfl)
      (try simp only [Act.put, gA, gS, gZ, sA, sZ, sS])
      refine wpList_nil ?_
      go_upto_region 3 with fail
      refine wp_region_lit ?_
      refine wv (.agg (poA ⟨x.p0, x.p1, x.p2, x.p3, x.p4, x.p5, x.p6, x.p7, x.p8, x.p9, x.p10, x.p11, x.p12, x.p13, x.p14, x.p15, x.p16, x.p17, x.p18, x.p19, x.p20⟩)) ?_ (hrun := kb_all K4.out 0 rfl 42 _ rfl rfl Try.underlying42 rfl (size50))
      (try simp only [Act.put, gA, gS, gZ, sA, sZ, sS])
      refine kb_row K4.out 2 rfl 42 _ _ (poA ⟨x.p0, x.p1, x.p2, x.p3, x.p4, x.p5, x.p6, x.p7, x.p8, x.p9, x.p10, x.p11, x.p12, x.p13, x.p14, x.p15, x.p16, x.p17, x.p18, x.p19, x.p20⟩) rfl rfl rfl rfl (size50) (by rfl) (po_all _) ?_
      intro w5 hk
      have K5 := Lib.hid (show Kb w [(b1, poA ⟨x.p0, x.p1, x.p2, x.p3, x.p4, x.p5, x.p6, x.p7, x.p8, x.p9, x.p10, x.p11, x.p12, x.p13, x.p14, x.p15, x.p16, x.p17, x.p18, x.p19, x.p20⟩, 42), (b2, cfA c, 38), (b3, poA ⟨x.p0, x.p1, x.p2, x.p3, x.p4, x.p5, x.p6, x.p7, x.p8, x.p9, x.p10, x.p11, x.p12, x.p13, x.p14, x.p15, x.p16, x.p17, x.p18, x.p19, x.p20⟩, 42)] w5 from hk)
      clear hk
      (try simp only [Act.put, gA, gS, gZ, sA, sZ, sS])
      refine wpList_nil ?_
      go_wp2_with fail
      refine bodyPost_ret (v := .agg (poA ⟨x.p0, x.p1, x.p2, x.p3, x.p4, x.p5, x.p6, x.p7, x.p8, x.p9, x.p10, x.p11, x.p12, x.p13, x.p14, x.p15, x.p16, x.p17, x.p18, x.p19, x.p20⟩)) (results_cell_row Try.results12 _ _ b3 42 (poA ⟨x.p0, x.p1, x.p2, x.p3, x.p4, x.p5, x.p6, x.p7, x.p8, x.p9, x.p10, x.p11, x.p12, x.p13, x.p14, x.p15, x.p16, x.p17, x.p18, x.p19, x.p20⟩) (0, 0) _ rfl (K5.out.at (i := 2) rfl) Try.underlying42 rfl (po_info _)) rfl ?_
      exact ⟨rfl, K5.out.below⟩
    case false =>
      cases ha : x.p9
      case true =>
        have hP : blockP x c.p3 = ⟨x.p0, x.p1, x.p2, x.p3, x.p4, x.p5, x.p6, x.p7, x.p8, true, x.p10, x.p11, x.p12, x.p13, x.p14, x.p15, x.p16, x.p17, x.p18, x.p19, x.p20⟩ := by unfold blockP; rw [if_neg (fun h => by rw [ha] at h; exact Bool.noConfusion h.2.2.1)]; rw [← ha]
        rw [hP]
        clear hP
        have HR := Lib.hid hr
        clear hr
        have HED := Lib.hid (show edgeB ⟨x.p0, x.p1, x.p2, x.p3, x.p4, x.p5, x.p6, x.p7, x.p8, true, x.p10, x.p11, x.p12, x.p13, x.p14, x.p15, x.p16, x.p17, x.p18, x.p19, x.p20⟩ = false from hed)
        clear hed
        rw [show poV x = .agg (poA ⟨x.p0, x.p1, x.p2, x.p3, x.p4, x.p5, x.p6, x.p7, x.p8, true, x.p10, x.p11, x.p12, x.p13, x.p14, x.p15, x.p16, x.p17, x.p18, x.p19, x.p20⟩) from by rw [← ha]]
        clear ha
        have K := Lib.hid (Kb.nil w)
        go_enter Try.func12, Try.ntmps12
        go_upto_region 0 with fail
        refine wp_region_lit ?_
        refine kb_box K.out 42 (.tmp 0) (poA ⟨x.p0, x.p1, x.p2, x.p3, x.p4, x.p5, x.p6, x.p7, x.p8, true, x.p10, x.p11, x.p12, x.p13, x.p14, x.p15, x.p16, x.p17, x.p18, x.p19, x.p20⟩) rfl rfl (by rfl) ?_
        intro b1 w1 hb1 hk
        have K1 := Lib.hid (show Kb w [(b1, poA ⟨x.p0, x.p1, x.p2, x.p3, x.p4, x.p5, x.p6, x.p7, x.p8, true, x.p10, x.p11, x.p12, x.p13, x.p14, x.p15, x.p16, x.p17, x.p18, x.p19, x.p20⟩, 42)] w1 from hk)
        clear hk hb1
        (try simp only [Act.put, gA, gS, gZ, sA, sZ, sS])
        refine kb_box K1.out 38 (.tmp 1) (cfA c) rfl rfl (by rfl) ?_
        intro b2 w2 hb2 hk
        have K2 := Lib.hid (show Kb w [(b1, poA ⟨x.p0, x.p1, x.p2, x.p3, x.p4, x.p5, x.p6, x.p7, x.p8, true, x.p10, x.p11, x.p12, x.p13, x.p14, x.p15, x.p16, x.p17, x.p18, x.p19, x.p20⟩, 42), (b2, cfA c, 38)] w2 from hk)
        clear hk hb2
        (try simp only [Act.put, gA, gS, gZ, sA, sZ, sS])
        refine kb_alloc K2.out 42 (nil21) rfl z50 (by rfl) ?_
        intro b3 w3 hb3 hk
        have K3 := Lib.hid (show Kb w [(b1, poA ⟨x.p0, x.p1, x.p2, x.p3, x.p4, x.p5, x.p6, x.p7, x.p8, true, x.p10, x.p11, x.p12, x.p13, x.p14, x.p15, x.p16, x.p17, x.p18, x.p19, x.p20⟩, 42), (b2, cfA c, 38), (b3, nil21, 42)] w3 from hk)
        clear hk hb3
        (try simp only [Act.put, gA, gS, gZ, sA, sZ, sS])
        refine wpList_nil ?_
        go_upto_region 1 with fail
        refine wp_region_lit ?_
        refine wv (.pointer (some ⟨b1, 10, none⟩)) ?_
        (try simp only [Act.put, gA, gS, gZ, sA, sZ, sS])
        refine wv (.int .i64 x.p10) ?_ (hrun := by have q : w3.cell? ⟨b1, 10, none⟩ = some (.int .i64 x.p10) := K3.out.cell (i := 0) rfl (by rfl); go_simp)
        (try simp only [Act.put, gA, gS, gZ, sA, sZ, sS])
        refine wv (.bool true) ?_ (hrun := by have q := HR.out; go_simp)
        (try simp only [Act.put, gA, gS, gZ, sA, sZ, sS])
        refine wv (.bool true) ?_
        (try simp only [Act.put, gA, gS, gZ, sA, sZ, sS])
        refine wv (.agg (poA ⟨x.p0, x.p1, x.p2, x.p3, x.p4, x.p5, x.p6, x.p7, x.p8, true, x.p10, x.p11, x.p12, x.p13, x.p14, x.p15, x.p16, x.p17, x.p18, x.p19, x.p20⟩)) ?_ (hrun := kb_all K3.out 0 rfl 42 _ rfl rfl Try.underlying42 rfl (size50))
        (try simp only [Act.put, gA, gS, gZ, sA, sZ, sS])
        refine kb_call K3.out 13 #[.agg (poA ⟨x.p0, x.p1, x.p2, x.p3, x.p4, x.p5, x.p6, x.p7, x.p8, true, x.p10, x.p11, x.p12, x.p13, x.p14, x.p15, x.p16, x.p17, x.p18, x.p19, x.p20⟩)] (.bool false) (by rfl) (by go_simp) (edge_is ⟨x.p0, x.p1, x.p2, x.p3, x.p4, x.p5, x.p6, x.p7, x.p8, true, x.p10, x.p11, x.p12, x.p13, x.p14, x.p15, x.p16, x.p17, x.p18, x.p19, x.p20⟩ false HED.out w3) ?_
        intro w4 hk
        have K4 := Lib.hid (show Kb w [(b1, poA ⟨x.p0, x.p1, x.p2, x.p3, x.p4, x.p5, x.p6, x.p7, x.p8, true, x.p10, x.p11, x.p12, x.p13, x.p14, x.p15, x.p16, x.p17, x.p18, x.p19, x.p20⟩, 42), (b2, cfA c, 38), (b3, nil21, 42)] w4 from hk)
        clear hk
        (try simp only [Act.put, gA, gS, gZ, sA, sZ, sS])
        refine wv (.bool true) ?_
        (try simp only [Act.put, gA, gS, gZ, sA, sZ, sS])
        refine wv (.bool true) ?_ (hrun := run_pick_yes (.tmp 8) (.tmp 11) (.const (.bool false)) _ rfl rfl rfl)
        (try simp only [Act.put, gA, gS, gZ, sA, sZ, sS])
        refine wv (.bool true) ?_
        (try simp only [Act.put, gA, gS, gZ, sA, sZ, sS])
        refine wv (.pointer (some ⟨b1, 9, none⟩)) ?_
        (try simp only [Act.put, gA, gS, gZ, sA, sZ, sS])
        refine wv (.bool true) ?_ (hrun := by have q : w4.cell? ⟨b1, 9, none⟩ = some (.bool true) := K4.out.cell (i := 0) rfl (by rfl); go_simp)
        (try simp only [Act.put, gA, gS, gZ, sA, sZ, sS])
        refine wv (.bool false) ?_
        (try simp only [Act.put, gA, gS, gZ, sA, sZ, sS])
        refine wv (.bool false) ?_ (hrun := run_pick_yes (.tmp 13) (.tmp 16) (.const (.bool false)) _ rfl rfl rfl)
        (try simp only [Act.put, gA, gS, gZ, sA, sZ, sS])
        refine wv (.bool false) ?_
        (try simp only [Act.put, gA, gS, gZ, sA, sZ, sS])
        refine wpList_skip (by kernel_rfl) ?_
        (try simp only [Act.put, gA, gS, gZ, sA, sZ, sS])
        refine wpList_skip (by kernel_rfl) ?_
        (try simp only [Act.put, gA, gS, gZ, sA, sZ, sS])
        refine wpList_skip (by kernel_rfl) ?_
        (try simp only [Act.put, gA, gS, gZ, sA, sZ, sS])
        refine wv (.bool false) ?_ (hrun := run_pick_no (.tmp 18) (.tmp 21) (.const (.bool false)) _ rfl rfl rfl)
        (try simp only [Act.put, gA, gS, gZ, sA, sZ, sS])
        refine wpList_nil ?_
        go_upto_region 3 with fail
        refine wp_region_lit ?_
        refine wv (.agg (poA ⟨x.p0, x.p1, x.p2, x.p3, x.p4, x.p5, x.p6, x.p7, x.p8, true, x.p10, x.p11, x.p12, x.p13, x.p14, x.p15, x.p16, x.p17, x.p18, x.p19, x.p20⟩)) ?_ (hrun := kb_all K4.out 0 rfl 42 _ rfl rfl Try.underlying42 rfl (size50))
        (try simp only [Act.put, gA, gS, gZ, sA, sZ, sS])
        refine kb_row K4.out 2 rfl 42 _ _ (poA ⟨x.p0, x.p1, x.p2, x.p3, x.p4, x.p5, x.p6, x.p7, x.p8, true, x.p10, x.p11, x.p12, x.p13, x.p14, x.p15, x.p16, x.p17, x.p18, x.p19, x.p20⟩) rfl rfl rfl rfl (size50) (by rfl) (po_all _) ?_
        intro w5 hk
        have K5 := Lib.hid (show Kb w [(b1, poA ⟨x.p0, x.p1, x.p2, x.p3, x.p4, x.p5, x.p6, x.p7, x.p8, true, x.p10, x.p11, x.p12, x.p13, x.p14, x.p15, x.p16, x.p17, x.p18, x.p19, x.p20⟩, 42), (b2, cfA c, 38), (b3, poA ⟨x.p0, x.p1, x.p2, x.p3, x.p4, x.p5, x.p6, x.p7, x.p8, true, x.p10, x.p11, x.p12, x.p13, x.p14, x.p15, x.p16, x.p17, x.p18, x.p19, x.p20⟩, 42)] w5 from hk)
        clear hk
        (try simp only [Act.put, gA, gS, gZ, sA, sZ, sS])
        refine wpList_nil ?_
        go_wp2_with fail
        refine bodyPost_ret (v := .agg (poA ⟨x.p0, x.p1, x.p2, x.p3, x.p4, x.p5, x.p6, x.p7, x.p8, true, x.p10, x.p11, x.p12, x.p13, x.p14, x.p15, x.p16, x.p17, x.p18, x.p19, x.p20⟩)) (results_cell_row Try.results12 _ _ b3 42 (poA ⟨x.p0, x.p1, x.p2, x.p3, x.p4, x.p5, x.p6, x.p7, x.p8, true, x.p10, x.p11, x.p12, x.p13, x.p14, x.p15, x.p16, x.p17, x.p18, x.p19, x.p20⟩) (0, 0) _ rfl (K5.out.at (i := 2) rfl) Try.underlying42 rfl (po_info _)) rfl ?_
        exact ⟨rfl, K5.out.below⟩
      case false =>
        by_cases hs : x.p11 = 0
        case pos =>
          have hP : blockP x c.p3 = ⟨x.p0, x.p1, x.p2, x.p3, x.p4, x.p5, x.p6, x.p7, x.p8, false, x.p10, x.p11, x.p12, x.p13, x.p14, x.p15, x.p16, x.p17, x.p18, x.p19, x.p20⟩ := by unfold blockP; rw [if_neg (fun h => h.2.2.2 hs)]; rw [← ha]
          rw [hP]
          clear hP
          have HR := Lib.hid hr
          clear hr
          have HS := Lib.hid hs
          clear hs
          have HED := Lib.hid (show edgeB ⟨x.p0, x.p1, x.p2, x.p3, x.p4, x.p5, x.p6, x.p7, x.p8, false, x.p10, x.p11, x.p12, x.p13, x.p14, x.p15, x.p16, x.p17, x.p18, x.p19, x.p20⟩ = false from hed)
          clear hed
          rw [show poV x = .agg (poA ⟨x.p0, x.p1, x.p2, x.p3, x.p4, x.p5, x.p6, x.p7, x.p8, false, x.p10, x.p11, x.p12, x.p13, x.p14, x.p15, x.p16, x.p17, x.p18, x.p19, x.p20⟩) from by rw [← ha]]
          clear ha
          have K := Lib.hid (Kb.nil w)
          go_enter Try.func12, Try.ntmps12
          go_upto_region 0 with fail
          refine wp_region_lit ?_
          refine kb_box K.out 42 (.tmp 0) (poA ⟨x.p0, x.p1, x.p2, x.p3, x.p4, x.p5, x.p6, x.p7, x.p8, false, x.p10, x.p11, x.p12, x.p13, x.p14, x.p15, x.p16, x.p17, x.p18, x.p19, x.p20⟩) rfl rfl (by rfl) ?_
          intro b1 w1 hb1 hk
          have K1 := Lib.hid (show Kb w [(b1, poA ⟨x.p0, x.p1, x.p2, x.p3, x.p4, x.p5, x.p6, x.p7, x.p8, false, x.p10, x.p11, x.p12, x.p13, x.p14, x.p15, x.p16, x.p17, x.p18, x.p19, x.p20⟩, 42)] w1 from hk)
          clear hk hb1
          (try simp only [Act.put, gA, gS, gZ, sA, sZ, sS])
          refine kb_box K1.out 38 (.tmp 1) (cfA c) rfl rfl (by rfl) ?_
          intro b2 w2 hb2 hk
          have K2 := Lib.hid (show Kb w [(b1, poA ⟨x.p0, x.p1, x.p2, x.p3, x.p4, x.p5, x.p6, x.p7, x.p8, false, x.p10, x.p11, x.p12, x.p13, x.p14, x.p15, x.p16, x.p17, x.p18, x.p19, x.p20⟩, 42), (b2, cfA c, 38)] w2 from hk)
          clear hk hb2
          (try simp only [Act.put, gA, gS, gZ, sA, sZ, sS])
          refine kb_alloc K2.out 42 (nil21) rfl z50 (by rfl) ?_
          intro b3 w3 hb3 hk
          have K3 := Lib.hid (show Kb w [(b1, poA ⟨x.p0, x.p1, x.p2, x.p3, x.p4, x.p5, x.p6, x.p7, x.p8, false, x.p10, x.p11, x.p12, x.p13, x.p14, x.p15, x.p16, x.p17, x.p18, x.p19, x.p20⟩, 42), (b2, cfA c, 38), (b3, nil21, 42)] w3 from hk)
          clear hk hb3
          (try simp only [Act.put, gA, gS, gZ, sA, sZ, sS])
          refine wpList_nil ?_
          go_upto_region 1 with fail
          refine wp_region_lit ?_
          refine wv (.pointer (some ⟨b1, 10, none⟩)) ?_
          (try simp only [Act.put, gA, gS, gZ, sA, sZ, sS])
          refine wv (.int .i64 x.p10) ?_ (hrun := by have q : w3.cell? ⟨b1, 10, none⟩ = some (.int .i64 x.p10) := K3.out.cell (i := 0) rfl (by rfl); go_simp)
          (try simp only [Act.put, gA, gS, gZ, sA, sZ, sS])
          refine wv (.bool true) ?_ (hrun := by have q := HR.out; go_simp)
          (try simp only [Act.put, gA, gS, gZ, sA, sZ, sS])
          refine wv (.bool true) ?_
          (try simp only [Act.put, gA, gS, gZ, sA, sZ, sS])
          refine wv (.agg (poA ⟨x.p0, x.p1, x.p2, x.p3, x.p4, x.p5, x.p6, x.p7, x.p8, false, x.p10, x.p11, x.p12, x.p13, x.p14, x.p15, x.p16, x.p17, x.p18, x.p19, x.p20⟩)) ?_ (hrun := kb_all K3.out 0 rfl 42 _ rfl rfl Try.underlying42 rfl (size50))
          (try simp only [Act.put, gA, gS, gZ, sA, sZ, sS])
          refine kb_call K3.out 13 #[.agg (poA ⟨x.p0, x.p1, x.p2, x.p3, x.p4, x.p5, x.p6, x.p7, x.p8, false, x.p10, x.p11, x.p12, x.p13, x.p14, x.p15, x.p16, x.p17, x.p18, x.p19, x.p20⟩)] (.bool false) (by rfl) (by go_simp) (edge_is ⟨x.p0, x.p1, x.p2, x.p3, x.p4, x.p5, x.p6, x.p7, x.p8, false, x.p10, x.p11, x.p12, x.p13, x.p14, x.p15, x.p16, x.p17, x.p18, x.p19, x.p20⟩ false HED.out w3) ?_
          intro w4 hk
          have K4 := Lib.hid (show Kb w [(b1, poA ⟨x.p0, x.p1, x.p2, x.p3, x.p4, x.p5, x.p6, x.p7, x.p8, false, x.p10, x.p11, x.p12, x.p13, x.p14, x.p15, x.p16, x.p17, x.p18, x.p19, x.p20⟩, 42), (b2, cfA c, 38), (b3, nil21, 42)] w4 from hk)
          clear hk
          (try simp only [Act.put, gA, gS, gZ, sA, sZ, sS])
          refine wv (.bool true) ?_
          (try simp only [Act.put, gA, gS, gZ, sA, sZ, sS])
          refine wv (.bool true) ?_ (hrun := run_pick_yes (.tmp 8) (.tmp 11) (.const (.bool false)) _ rfl rfl rfl)
          (try simp only [Act.put, gA, gS, gZ, sA, sZ, sS])
          refine wv (.bool true) ?_
          (try simp only [Act.put, gA, gS, gZ, sA, sZ, sS])
          refine wv (.pointer (some ⟨b1, 9, none⟩)) ?_
          (try simp only [Act.put, gA, gS, gZ, sA, sZ, sS])
          refine wv (.bool false) ?_ (hrun := by have q : w4.cell? ⟨b1, 9, none⟩ = some (.bool false) := K4.out.cell (i := 0) rfl (by rfl); go_simp)
          (try simp only [Act.put, gA, gS, gZ, sA, sZ, sS])
          refine wv (.bool true) ?_
          (try simp only [Act.put, gA, gS, gZ, sA, sZ, sS])
          refine wv (.bool true) ?_ (hrun := run_pick_yes (.tmp 13) (.tmp 16) (.const (.bool false)) _ rfl rfl rfl)
          (try simp only [Act.put, gA, gS, gZ, sA, sZ, sS])
          refine wv (.bool true) ?_
          (try simp only [Act.put, gA, gS, gZ, sA, sZ, sS])
          refine wv (.pointer (some ⟨b1, 11, none⟩)) ?_
          (try simp only [Act.put, gA, gS, gZ, sA, sZ, sS])
          refine wv (.int .i64 x.p11) ?_ (hrun := by have q : w4.cell? ⟨b1, 11, none⟩ = some (.int .i64 x.p11) := K4.out.cell (i := 0) rfl (by rfl); go_simp)
          (try simp only [Act.put, gA, gS, gZ, sA, sZ, sS])
          refine wv (.bool false) ?_ (hrun := by have q := HS.out; go_simp)
          (try simp only [Act.put, gA, gS, gZ, sA, sZ, sS])
          refine wv (.bool false) ?_ (hrun := run_pick_yes (.tmp 18) (.tmp 21) (.const (.bool false)) _ rfl rfl rfl)
          (try simp only [Act.put, gA, gS, gZ, sA, sZ, sS])
          refine wpList_nil ?_
          go_upto_region 3 with fail
          refine wp_region_lit ?_
          refine wv (.agg (poA ⟨x.p0, x.p1, x.p2, x.p3, x.p4, x.p5, x.p6, x.p7, x.p8, false, x.p10, x.p11, x.p12, x.p13, x.p14, x.p15, x.p16, x.p17, x.p18, x.p19, x.p20⟩)) ?_ (hrun := kb_all K4.out 0 rfl 42 _ rfl rfl Try.underlying42 rfl (size50))
          (try simp only [Act.put, gA, gS, gZ, sA, sZ, sS])
          refine kb_row K4.out 2 rfl 42 _ _ (poA ⟨x.p0, x.p1, x.p2, x.p3, x.p4, x.p5, x.p6, x.p7, x.p8, false, x.p10, x.p11, x.p12, x.p13, x.p14, x.p15, x.p16, x.p17, x.p18, x.p19, x.p20⟩) rfl rfl rfl rfl (size50) (by rfl) (po_all _) ?_
          intro w5 hk
          have K5 := Lib.hid (show Kb w [(b1, poA ⟨x.p0, x.p1, x.p2, x.p3, x.p4, x.p5, x.p6, x.p7, x.p8, false, x.p10, x.p11, x.p12, x.p13, x.p14, x.p15, x.p16, x.p17, x.p18, x.p19, x.p20⟩, 42), (b2, cfA c, 38), (b3, poA ⟨x.p0, x.p1, x.p2, x.p3, x.p4, x.p5, x.p6, x.p7, x.p8, false, x.p10, x.p11, x.p12, x.p13, x.p14, x.p15, x.p16, x.p17, x.p18, x.p19, x.p20⟩, 42)] w5 from hk)
          clear hk
          (try simp only [Act.put, gA, gS, gZ, sA, sZ, sS])
          refine wpList_nil ?_
          go_wp2_with fail
          refine bodyPost_ret (v := .agg (poA ⟨x.p0, x.p1, x.p2, x.p3, x.p4, x.p5, x.p6, x.p7, x.p8, false, x.p10, x.p11, x.p12, x.p13, x.p14, x.p15, x.p16, x.p17, x.p18, x.p19, x.p20⟩)) (results_cell_row Try.results12 _ _ b3 42 (poA ⟨x.p0, x.p1, x.p2, x.p3, x.p4, x.p5, x.p6, x.p7, x.p8, false, x.p10, x.p11, x.p12, x.p13, x.p14, x.p15, x.p16, x.p17, x.p18, x.p19, x.p20⟩) (0, 0) _ rfl (K5.out.at (i := 2) rfl) Try.underlying42 rfl (po_info _)) rfl ?_
          exact ⟨rfl, K5.out.below⟩
        case neg =>
          have hP : blockP x c.p3 = ⟨x.p0, x.p1, x.p2, x.p3, x.p4, x.p5, x.p6, x.p7, x.p8, false, x.p10, 0, x.p12, x.p13, x.p14, x.p15, x.p16, x.p17, x.p18, c.p3, x.p20⟩ := by unfold blockP; rw [if_pos ⟨hr, hed, ha, hs⟩]; rw [← ha]
          rw [hP]
          clear hP
          have HR := Lib.hid hr
          clear hr
          have HS := Lib.hid hs
          clear hs
          have HED := Lib.hid (show edgeB ⟨x.p0, x.p1, x.p2, x.p3, x.p4, x.p5, x.p6, x.p7, x.p8, false, x.p10, x.p11, x.p12, x.p13, x.p14, x.p15, x.p16, x.p17, x.p18, x.p19, x.p20⟩ = false from hed)
          clear hed
          rw [show poV x = .agg (poA ⟨x.p0, x.p1, x.p2, x.p3, x.p4, x.p5, x.p6, x.p7, x.p8, false, x.p10, x.p11, x.p12, x.p13, x.p14, x.p15, x.p16, x.p17, x.p18, x.p19, x.p20⟩) from by rw [← ha]]
          clear ha
          have K := Lib.hid (Kb.nil w)
          go_enter Try.func12, Try.ntmps12
          go_upto_region 0 with fail
          refine wp_region_lit ?_
          refine kb_box K.out 42 (.tmp 0) (poA ⟨x.p0, x.p1, x.p2, x.p3, x.p4, x.p5, x.p6, x.p7, x.p8, false, x.p10, x.p11, x.p12, x.p13, x.p14, x.p15, x.p16, x.p17, x.p18, x.p19, x.p20⟩) rfl rfl (by rfl) ?_
          intro b1 w1 hb1 hk
          have K1 := Lib.hid (show Kb w [(b1, poA ⟨x.p0, x.p1, x.p2, x.p3, x.p4, x.p5, x.p6, x.p7, x.p8, false, x.p10, x.p11, x.p12, x.p13, x.p14, x.p15, x.p16, x.p17, x.p18, x.p19, x.p20⟩, 42)] w1 from hk)
          clear hk hb1
          (try simp only [Act.put, gA, gS, gZ, sA, sZ, sS])
          refine kb_box K1.out 38 (.tmp 1) (cfA c) rfl rfl (by rfl) ?_
          intro b2 w2 hb2 hk
          have K2 := Lib.hid (show Kb w [(b1, poA ⟨x.p0, x.p1, x.p2, x.p3, x.p4, x.p5, x.p6, x.p7, x.p8, false, x.p10, x.p11, x.p12, x.p13, x.p14, x.p15, x.p16, x.p17, x.p18, x.p19, x.p20⟩, 42), (b2, cfA c, 38)] w2 from hk)
          clear hk hb2
          (try simp only [Act.put, gA, gS, gZ, sA, sZ, sS])
          refine kb_alloc K2.out 42 (nil21) rfl z50 (by rfl) ?_
          intro b3 w3 hb3 hk
          have K3 := Lib.hid (show Kb w [(b1, poA ⟨x.p0, x.p1, x.p2, x.p3, x.p4, x.p5, x.p6, x.p7, x.p8, false, x.p10, x.p11, x.p12, x.p13, x.p14, x.p15, x.p16, x.p17, x.p18, x.p19, x.p20⟩, 42), (b2, cfA c, 38), (b3, nil21, 42)] w3 from hk)
          clear hk hb3
          (try simp only [Act.put, gA, gS, gZ, sA, sZ, sS])
          refine wpList_nil ?_
          go_upto_region 1 with fail
          refine wp_region_lit ?_
          refine wv (.pointer (some ⟨b1, 10, none⟩)) ?_
          (try simp only [Act.put, gA, gS, gZ, sA, sZ, sS])
          refine wv (.int .i64 x.p10) ?_ (hrun := by have q : w3.cell? ⟨b1, 10, none⟩ = some (.int .i64 x.p10) := K3.out.cell (i := 0) rfl (by rfl); go_simp)
          (try simp only [Act.put, gA, gS, gZ, sA, sZ, sS])
          refine wv (.bool true) ?_ (hrun := by have q := HR.out; go_simp)
          (try simp only [Act.put, gA, gS, gZ, sA, sZ, sS])
          refine wv (.bool true) ?_
          (try simp only [Act.put, gA, gS, gZ, sA, sZ, sS])
          refine wv (.agg (poA ⟨x.p0, x.p1, x.p2, x.p3, x.p4, x.p5, x.p6, x.p7, x.p8, false, x.p10, x.p11, x.p12, x.p13, x.p14, x.p15, x.p16, x.p17, x.p18, x.p19, x.p20⟩)) ?_ (hrun := kb_all K3.out 0 rfl 42 _ rfl rfl Try.underlying42 rfl (size50))
          (try simp only [Act.put, gA, gS, gZ, sA, sZ, sS])
          refine kb_call K3.out 13 #[.agg (poA ⟨x.p0, x.p1, x.p2, x.p3, x.p4, x.p5, x.p6, x.p7, x.p8, false, x.p10, x.p11, x.p12, x.p13, x.p14, x.p15, x.p16, x.p17, x.p18, x.p19, x.p20⟩)] (.bool false) (by rfl) (by go_simp) (edge_is ⟨x.p0, x.p1, x.p2, x.p3, x.p4, x.p5, x.p6, x.p7, x.p8, false, x.p10, x.p11, x.p12, x.p13, x.p14, x.p15, x.p16, x.p17, x.p18, x.p19, x.p20⟩ false HED.out w3) ?_
          intro w4 hk
          have K4 := Lib.hid (show Kb w [(b1, poA ⟨x.p0, x.p1, x.p2, x.p3, x.p4, x.p5, x.p6, x.p7, x.p8, false, x.p10, x.p11, x.p12, x.p13, x.p14, x.p15, x.p16, x.p17, x.p18, x.p19, x.p20⟩, 42), (b2, cfA c, 38), (b3, nil21, 42)] w4 from hk)
          clear hk
          (try simp only [Act.put, gA, gS, gZ, sA, sZ, sS])
          refine wv (.bool true) ?_
          (try simp only [Act.put, gA, gS, gZ, sA, sZ, sS])
          refine wv (.bool true) ?_ (hrun := run_pick_yes (.tmp 8) (.tmp 11) (.const (.bool false)) _ rfl rfl rfl)
          (try simp only [Act.put, gA, gS, gZ, sA, sZ, sS])
          refine wv (.bool true) ?_
          (try simp only [Act.put, gA, gS, gZ, sA, sZ, sS])
          refine wv (.pointer (some ⟨b1, 9, none⟩)) ?_
          (try simp only [Act.put, gA, gS, gZ, sA, sZ, sS])
          refine wv (.bool false) ?_ (hrun := by have q : w4.cell? ⟨b1, 9, none⟩ = some (.bool false) := K4.out.cell (i := 0) rfl (by rfl); go_simp)
          (try simp only [Act.put, gA, gS, gZ, sA, sZ, sS])
          refine wv (.bool true) ?_
          (try simp only [Act.put, gA, gS, gZ, sA, sZ, sS])
          refine wv (.bool true) ?_ (hrun := run_pick_yes (.tmp 13) (.tmp 16) (.const (.bool false)) _ rfl rfl rfl)
          (try simp only [Act.put, gA, gS, gZ, sA, sZ, sS])
          refine wv (.bool true) ?_
          (try simp only [Act.put, gA, gS, gZ, sA, sZ, sS])
          refine wv (.pointer (some ⟨b1, 11, none⟩)) ?_
          (try simp only [Act.put, gA, gS, gZ, sA, sZ, sS])
          refine wv (.int .i64 x.p11) ?_ (hrun := by have q : w4.cell? ⟨b1, 11, none⟩ = some (.int .i64 x.p11) := K4.out.cell (i := 0) rfl (by rfl); go_simp)
          (try simp only [Act.put, gA, gS, gZ, sA, sZ, sS])
          refine wv (.bool true) ?_ (hrun := by have q := HS.out; go_simp)
          (try simp only [Act.put, gA, gS, gZ, sA, sZ, sS])
          refine wv (.bool true) ?_ (hrun := run_pick_yes (.tmp 18) (.tmp 21) (.const (.bool false)) _ rfl rfl rfl)
          (try simp only [Act.put, gA, gS, gZ, sA, sZ, sS])
          refine wpList_nil ?_
          go_upto_region 2 with fail
          refine wp_region_inv (I := fun L ac w' => ac = BlA5 x c b1 b2 b3 L ∧ Kb w [(b1, poA ⟨x.p0, x.p1, x.p2, x.p3, x.p4, x.p5, x.p6, x.p7, x.p8, false, x.p10, (bif L 3 then 0 else x.p11), x.p12, x.p13, x.p14, x.p15, x.p16, x.p17, x.p18, (bif L 5 then c.p3 else x.p19), x.p20⟩, 42), (b2, cfA c, 38), (b3, nil21, 42)] w') (by kernel_rfl) (by kernel_rfl) ⟨by kernel_rfl, K4.out.drew⟩ ?_ ?_
          · intro i hi Lx ac w' hI hL haft
            obtain ⟨rfl, hw⟩ := hI
            match i, hi with
            | 0, _ =>
              have g3 : (BlA5 x c b1 b2 b3 Lx).tmps[3]?.getD undef = .pointer (some ⟨b2, 0, none⟩) := by kernel_rfl
              have e3 : (BlA5 x c b1 b2 b3 Lx).eval (.tmp 3) = .pointer (some ⟨b2, 0, none⟩) := by kernel_rfl
              exact i_val rfl (.pointer (some ⟨b2, 3, none⟩)) w' (by rfl) (by go_simp) ⟨by kernel_rfl, hw⟩
            | 1, _ =>
              have h0 := haft 0 (by decide)
              have e23 : (BlA5 x c b1 b2 b3 Lx).eval (.tmp 23) = .pointer (some ⟨b2, 3, none⟩) := by show (bif Lx 0 then _ else _) = _; rw [h0]; rfl
              have g23 : (BlA5 x c b1 b2 b3 Lx).tmps[23]?.getD undef = .pointer (some ⟨b2, 3, none⟩) := by show (bif Lx 0 then _ else _) = _; rw [h0]; rfl
              exact i_val rfl (.int .i64 c.p3) w' (by rfl) (by have q : w'.cell? ⟨b2, 3, none⟩ = some (.int .i64 c.p3) := Kb.cell (i := 1) hw rfl (by rfl); go_simp) ⟨by kernel_rfl, hw⟩
            | 2, _ =>
              have g2 : (BlA5 x c b1 b2 b3 Lx).tmps[2]?.getD undef = .pointer (some ⟨b1, 0, none⟩) := by kernel_rfl
              have e2 : (BlA5 x c b1 b2 b3 Lx).eval (.tmp 2) = .pointer (some ⟨b1, 0, none⟩) := by kernel_rfl
              exact i_val rfl (.pointer (some ⟨b1, 11, none⟩)) w' (by rfl) (by go_simp) ⟨by kernel_rfl, hw⟩
            | 3, _ =>
              have h2 := haft 2 (by decide)
              have e25 : (BlA5 x c b1 b2 b3 Lx).eval (.tmp 25) = .pointer (some ⟨b1, 11, none⟩) := by show (bif Lx 2 then _ else _) = _; rw [h2]; rfl
              have g25 : (BlA5 x c b1 b2 b3 Lx).tmps[25]?.getD undef = .pointer (some ⟨b1, 11, none⟩) := by show (bif Lx 2 then _ else _) = _; rw [h2]; rfl
              exact i_wp rfl (by rfl) (wp_store_cell 3 _ _ rfl ⟨b1, 11, none⟩ (.int .i64 0) e25 rfl (kb_run_set hw (i := 0) rfl 3 11 (.int .i64 (bif Lx 3 then 0 else x.p11)) (.int .i64 0) (by rfl) (fun W h1 h2 => by go_simp)) ⟨by kernel_rfl, cast_blk (Kb.set (i := 0) hw rfl 11 (.int .i64 0)) (by rfl)⟩)
            | 4, _ =>
              have g2 : (BlA5 x c b1 b2 b3 Lx).tmps[2]?.getD undef = .pointer (some ⟨b1, 0, none⟩) := by kernel_rfl
              have e2 : (BlA5 x c b1 b2 b3 Lx).eval (.tmp 2) = .pointer (some ⟨b1, 0, none⟩) := by kernel_rfl
              exact i_val rfl (.pointer (some ⟨b1, 19, none⟩)) w' (by rfl) (by go_simp) ⟨by kernel_rfl, hw⟩
            | 5, _ =>
              have h1 := haft 1 (by decide)
              have e24 : (BlA5 x c b1 b2 b3 Lx).eval (.tmp 24) = .int .i64 c.p3 := by show (bif Lx 1 then _ else _) = _; rw [h1]; rfl
              have g24 : (BlA5 x c b1 b2 b3 Lx).tmps[24]?.getD undef = .int .i64 c.p3 := by show (bif Lx 1 then _ else _) = _; rw [h1]; rfl
              have h4 := haft 4 (by decide)
              have e26 : (BlA5 x c b1 b2 b3 Lx).eval (.tmp 26) = .pointer (some ⟨b1, 19, none⟩) := by show (bif Lx 4 then _ else _) = _; rw [h4]; rfl
              have g26 : (BlA5 x c b1 b2 b3 Lx).tmps[26]?.getD undef = .pointer (some ⟨b1, 19, none⟩) := by show (bif Lx 4 then _ else _) = _; rw [h4]; rfl
              exact i_wp rfl (by rfl) (wp_store_cell 3 _ _ rfl ⟨b1, 19, none⟩ (.int .i64 c.p3) e26 e24 (kb_run_set hw (i := 0) rfl 3 19 (.int .i64 (bif Lx 5 then c.p3 else x.p19)) (.int .i64 c.p3) (by rfl) (fun W h1 h2 => by go_simp)) ⟨by kernel_rfl, cast_blk (Kb.set (i := 0) hw rfl 19 (.int .i64 c.p3)) (by rfl)⟩)
            | k + 6, h =>
              exfalso
              have h2 : k + 6 < 6 := h
              omega
          intro Lx ac w5 hI hall
          obtain ⟨rfl, hw⟩ := hI
          have hfr : BlA5 x c b1 b2 b3 Lx = { tmps := #[.agg (poA ⟨x.p0, x.p1, x.p2, x.p3, x.p4, x.p5, x.p6, x.p7, x.p8, false, x.p10, x.p11, x.p12, x.p13, x.p14, x.p15, x.p16, x.p17, x.p18, x.p19, x.p20⟩), .agg (cfA c), .pointer (some ⟨b1, 0, none⟩), .pointer (some ⟨b2, 0, none⟩), .pointer (some ⟨b3, 0, none⟩), .pointer (some ⟨b1, 10, none⟩), .int .i64 x.p10, .bool true, .bool true, .agg (poA ⟨x.p0, x.p1, x.p2, x.p3, x.p4, x.p5, x.p6, x.p7, x.p8, false, x.p10, x.p11, x.p12, x.p13, x.p14, x.p15, x.p16, x.p17, x.p18, x.p19, x.p20⟩), .bool false, .bool true, .bool true, .bool true, .pointer (some ⟨b1, 9, none⟩), .bool false, .bool true, .bool true, .bool true, .pointer (some ⟨b1, 11, none⟩), .int .i64 x.p11, .bool true, .bool true, .pointer (some ⟨b2, 3, none⟩), .int .i64 c.p3, .pointer (some ⟨b1, 11, none⟩), .pointer (some ⟨b1, 19, none⟩), undef], defers := [] } := by unfold BlA5; simp only [hall 0 (by decide), hall 1 (by decide), hall 2 (by decide), hall 4 (by decide), cond_true]
          rw [hfr]
          clear hfr
          have hL3 := hall 3 (by decide)
          have hL5 := hall 5 (by decide)
          simp only [hL3, hL5, cond_true] at hw
          have K5 := Lib.hid (show Kb w [(b1, poA ⟨x.p0, x.p1, x.p2, x.p3, x.p4, x.p5, x.p6, x.p7, x.p8, false, x.p10, 0, x.p12, x.p13, x.p14, x.p15, x.p16, x.p17, x.p18, c.p3, x.p20⟩, 42), (b2, cfA c, 38), (b3, nil21, 42)] w5 from hw)
          clear hw hall hL3 hL5
          go_upto_region 3 with fail
          refine wp_region_lit ?_
          refine wv (.agg (poA ⟨x.p0, x.p1, x.p2, x.p3, x.p4, x.p5, x.p6, x.p7, x.p8, false, x.p10, 0, x.p12, x.p13, x.p14, x.p15, x.p16, x.p17, x.p18, c.p3, x.p20⟩)) ?_ (hrun := kb_all K5.out 0 rfl 42 _ rfl rfl Try.underlying42 rfl (size50))
          (try simp only [Act.put, gA, gS, gZ, sA, sZ, sS])
          refine kb_row K5.out 2 rfl 42 _ _ (poA ⟨x.p0, x.p1, x.p2, x.p3, x.p4, x.p5, x.p6, x.p7, x.p8, false, x.p10, 0, x.p12, x.p13, x.p14, x.p15, x.p16, x.p17, x.p18, c.p3, x.p20⟩) rfl rfl rfl rfl (size50) (by rfl) (po_all _) ?_
          intro w6 hk
          have K6 := Lib.hid (show Kb w [(b1, poA ⟨x.p0, x.p1, x.p2, x.p3, x.p4, x.p5, x.p6, x.p7, x.p8, false, x.p10, 0, x.p12, x.p13, x.p14, x.p15, x.p16, x.p17, x.p18, c.p3, x.p20⟩, 42), (b2, cfA c, 38), (b3, poA ⟨x.p0, x.p1, x.p2, x.p3, x.p4, x.p5, x.p6, x.p7, x.p8, false, x.p10, 0, x.p12, x.p13, x.p14, x.p15, x.p16, x.p17, x.p18, c.p3, x.p20⟩, 42)] w6 from hk)
          clear hk
          (try simp only [Act.put, gA, gS, gZ, sA, sZ, sS])
          refine wpList_nil ?_
          go_wp2_with fail
          refine bodyPost_ret (v := .agg (poA ⟨x.p0, x.p1, x.p2, x.p3, x.p4, x.p5, x.p6, x.p7, x.p8, false, x.p10, 0, x.p12, x.p13, x.p14, x.p15, x.p16, x.p17, x.p18, c.p3, x.p20⟩)) (results_cell_row Try.results12 _ _ b3 42 (poA ⟨x.p0, x.p1, x.p2, x.p3, x.p4, x.p5, x.p6, x.p7, x.p8, false, x.p10, 0, x.p12, x.p13, x.p14, x.p15, x.p16, x.p17, x.p18, c.p3, x.p20⟩) (0, 0) _ rfl (K6.out.at (i := 2) rfl) Try.underlying42 rfl (po_info _)) rfl ?_
          exact ⟨rfl, K6.out.below⟩
end Go.Proofs.Yteeinlbhcdpnnaa
