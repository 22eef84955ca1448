/- Fade. -/
import Derived.Test.YtojijeaofkndpaaIn0
import Derived.Test.YtojijeaofkndpaaKb2
namespace Go.Proofs.Ytojijeaofkndpaa
open Go.RowKit
attribute [local irreducible] wpQuiet wpList
set_option linter.unusedSimpArgs false
set_option linter.unusedVariables false

/-- What Fade answers. -/
def fadeP (x : Po) : Po := if x.p12 = 2 then (if 1 < x.p18 then { x with p18 := IntKind.i64.wrap (x.p18 - 1) } else ⟨x.p0, x.p1, x.p2, x.p3, x.p4, x.p5, x.p6, x.p7, x.p8, x.p9, x.p10, x.p11, 0, 0, 0, 0, 0, 0, 0, x.p19, x.p20⟩) else x
def fadeB (x : Po) : Bool := decide (x.p12 = 2) && !decide (1 < x.p18)
set_option maxRecDepth 100000 in
set_option maxHeartbeats 8000000 in
theorem fade_any (x : Po) (w : World) : Calls Try.prog 18 #[poV x] w fun e w' => e = .returned (.tuple #[poV (fadeP x), .bool (fadeB x)]) ∧ Below w.heap.size w w' := by
  by_cases hi : x.p12 = 2
  case neg =>
    have hP : fadeP x = ⟨x.p0, x.p1, x.p2, x.p3, x.p4, x.p5, x.p6, x.p7, x.p8, x.p9, x.p10, x.p11, x.p12, x.p13, x.p14, x.p15, x.p16, x.p17, x.p18, x.p19, x.p20⟩ := by unfold fadeP; rw [if_neg hi]
    have hN : fadeB x = false := by simp [fadeB, hi]
    rw [hP, hN]
    clear hP hN
    obtain ⟨A, hA⟩ : ∃ A, A = x := ⟨_, rfl⟩
    rw [show poV x = .agg (poA ⟨x.p0, x.p1, x.p2, x.p3, x.p4, x.p5, x.p6, x.p7, x.p8, x.p9, x.p10, x.p11, x.p12, x.p13, x.p14, x.p15, x.p16, x.p17, x.p18, x.p19, x.p20⟩) from rfl]
    have K := Lib.hid (Kb.nil w)
    go_enter Try.func18, Try.ntmps18
    go_upto_region 0 with fail
    refine wp_region_lit ?_
    refine kb_box K.out 62 (.tmp 0) (poA ⟨x.p0, x.p1, x.p2, x.p3, x.p4, x.p5, x.p6, x.p7, x.p8, x.p9, x.p10, x.p11, x.p12, x.p13, x.p14, x.p15, x.p16, x.p17, x.p18, x.p19, x.p20⟩) rfl rfl (by rfl) ?_
    intro b1 w1 hb1 hk
    have K1 := Lib.hid (show Kb w [(b1, poA ⟨x.p0, x.p1, x.p2, x.p3, x.p4, x.p5, x.p6, x.p7, x.p8, x.p9, x.p10, x.p11, x.p12, x.p13, x.p14, x.p15, x.p16, x.p17, x.p18, x.p19, x.p20⟩, 62)] w1 from hk)
    clear hk hb1
    (try simp only [Act.put, List.getElem_toArray, List.getElem_cons_succ, List.getElem_cons_zero, List.setIfInBounds_toArray, List.set_cons_zero, List.set_cons_succ])
    refine kb_alloc K1.out 62 (nil21) rfl z50 (by rfl) ?_
    intro b2 w2 hb2 hk
    have K2 := Lib.hid (show Kb w [(b1, poA ⟨x.p0, x.p1, x.p2, x.p3, x.p4, x.p5, x.p6, x.p7, x.p8, x.p9, x.p10, x.p11, x.p12, x.p13, x.p14, x.p15, x.p16, x.p17, x.p18, x.p19, x.p20⟩, 62), (b2, nil21, 62)] w2 from hk)
    clear hk hb2
    (try simp only [Act.put, List.getElem_toArray, List.getElem_cons_succ, List.getElem_cons_zero, List.setIfInBounds_toArray, List.set_cons_zero, List.set_cons_succ])
    refine wpList_val (.bool false) (by rfl) (by go_simp) ?_
    (try simp only [Act.put, List.getElem_toArray, List.getElem_cons_succ, List.getElem_cons_zero, List.setIfInBounds_toArray, List.set_cons_zero, List.set_cons_succ])
    refine wpList_nil ?_
    go_upto_region 1 with fail
    refine wp_region_lit ?_
    refine wpList_val (.pointer (some ⟨b1, 12, none⟩)) (by rfl) (by go_simp) ?_
    (try simp only [Act.put, List.getElem_toArray, List.getElem_cons_succ, List.getElem_cons_zero, List.setIfInBounds_toArray, List.set_cons_zero, List.set_cons_succ])
    refine wpList_val (.int .i64 x.p12) (by rfl) (by have q : w2.cell? ⟨b1, 12, none⟩ = some (.int .i64 x.p12) := K2.out.cell (i := 0) rfl (by rfl); go_simp) ?_
    (try simp only [Act.put, List.getElem_toArray, List.getElem_cons_succ, List.getElem_cons_zero, List.setIfInBounds_toArray, List.set_cons_zero, List.set_cons_succ])
    refine wpList_val (.bool true) (by rfl) (by have q := hi; go_simp) ?_
    (try simp only [Act.put, List.getElem_toArray, List.getElem_cons_succ, List.getElem_cons_zero, List.setIfInBounds_toArray, List.set_cons_zero, List.set_cons_succ])
    refine wpList_nil ?_
    go_upto_region 2 with fail
    refine wp_region_lit ?_
    refine wpList_val (.agg (poA ⟨x.p0, x.p1, x.p2, x.p3, x.p4, x.p5, x.p6, x.p7, x.p8, x.p9, x.p10, x.p11, x.p12, x.p13, x.p14, x.p15, x.p16, x.p17, x.p18, x.p19, x.p20⟩)) (by rfl) (kb_all K2.out 0 rfl 62 _ rfl rfl Try.underlying62 rfl (size50)) ?_
    (try simp only [Act.put, List.getElem_toArray, List.getElem_cons_succ, List.getElem_cons_zero, List.setIfInBounds_toArray, List.set_cons_zero, List.set_cons_succ])
    refine kb_row K2.out 1 rfl 62 _ _ (poA ⟨x.p0, x.p1, x.p2, x.p3, x.p4, x.p5, x.p6, x.p7, x.p8, x.p9, x.p10, x.p11, x.p12, x.p13, x.p14, x.p15, x.p16, x.p17, x.p18, x.p19, x.p20⟩) rfl rfl rfl rfl (size50) (by rfl) (po_all _) ?_
    intro w3 hk
    have K3 := Lib.hid (show Kb w [(b1, poA ⟨x.p0, x.p1, x.p2, x.p3, x.p4, x.p5, x.p6, x.p7, x.p8, x.p9, x.p10, x.p11, x.p12, x.p13, x.p14, x.p15, x.p16, x.p17, x.p18, x.p19, x.p20⟩, 62), (b2, poA ⟨x.p0, x.p1, x.p2, x.p3, x.p4, x.p5, x.p6, x.p7, x.p8, x.p9, x.p10, x.p11, x.p12, x.p13, x.p14, x.p15, x.p16, x.p17, x.p18, x.p19, x.p20⟩, 62)] w3 from hk)
    clear hk
    (try simp only [Act.put, List.getElem_toArray, List.getElem_cons_succ, List.getElem_cons_zero, List.setIfInBounds_toArray, List.set_cons_zero, List.set_cons_succ])
    refine wpList_val (.bool false) (by rfl) (by go_simp) ?_
    (try simp only [Act.put, List.getElem_toArray, List.getElem_cons_succ, List.getElem_cons_zero, List.setIfInBounds_toArray, List.set_cons_zero, List.set_cons_succ])
    refine wpList_nil ?_
    go_wp2_with fail
    refine bodyPost_ret (v := .tuple #[.agg (poA ⟨x.p0, x.p1, x.p2, x.p3, x.p4, x.p5, x.p6, x.p7, x.p8, x.p9, x.p10, x.p11, x.p12, x.p13, x.p14, x.p15, x.p16, x.p17, x.p18, x.p19, x.p20⟩), .bool false]) (results_row_tmp Try.results18 _ _ b2 62 (poA ⟨x.p0, x.p1, x.p2, x.p3, x.p4, x.p5, x.p6, x.p7, x.p8, x.p9, x.p10, x.p11, x.p12, x.p13, x.p14, x.p15, x.p16, x.p17, x.p18, x.p19, x.p20⟩) (.bool false) _ rfl rfl (K3.out.at (i := 1) rfl) Try.underlying62 rfl (po_info _)) rfl ?_
    exact ⟨rfl, K3.out.below⟩
  case pos =>
    by_cases hl : 1 < x.p18
    case pos =>
      have hP : fadeP x = ⟨x.p0, x.p1, x.p2, x.p3, x.p4, x.p5, x.p6, x.p7, x.p8, x.p9, x.p10, x.p11, x.p12, x.p13, x.p14, x.p15, x.p16, x.p17, (IntKind.i64.wrap (x.p18 - 1)), x.p19, x.p20⟩ := by unfold fadeP; rw [if_pos hi, if_pos hl]
      have hN : fadeB x = false := by simp [fadeB, hi, hl]
      rw [hP, hN]
      clear hP hN
      obtain ⟨A, hA⟩ : ∃ A, A = x := ⟨_, rfl⟩
      rw [show poV x = .agg (poA ⟨x.p0, x.p1, x.p2, x.p3, x.p4, x.p5, x.p6, x.p7, x.p8, x.p9, x.p10, x.p11, x.p12, x.p13, x.p14, x.p15, x.p16, x.p17, x.p18, x.p19, x.p20⟩) from rfl]
      have K := Lib.hid (Kb.nil w)
      go_enter Try.func18, Try.ntmps18
      go_upto_region 0 with fail
      refine wp_region_lit ?_
      refine kb_box K.out 62 (.tmp 0) (poA ⟨x.p0, x.p1, x.p2, x.p3, x.p4, x.p5, x.p6, x.p7, x.p8, x.p9, x.p10, x.p11, x.p12, x.p13, x.p14, x.p15, x.p16, x.p17, x.p18, x.p19, x.p20⟩) rfl rfl (by rfl) ?_
      intro b1 w1 hb1 hk
      have K1 := Lib.hid (show Kb w [(b1, poA ⟨x.p0, x.p1, x.p2, x.p3, x.p4, x.p5, x.p6, x.p7, x.p8, x.p9, x.p10, x.p11, x.p12, x.p13, x.p14, x.p15, x.p16, x.p17, x.p18, x.p19, x.p20⟩, 62)] w1 from hk)
      clear hk hb1
      (try simp only [Act.put, List.getElem_toArray, List.getElem_cons_succ, List.getElem_cons_zero, List.setIfInBounds_toArray, List.set_cons_zero, List.set_cons_succ])
      refine kb_alloc K1.out 62 (nil21) rfl z50 (by rfl) ?_
      intro b2 w2 hb2 hk
      have K2 := Lib.hid (show Kb w [(b1, poA ⟨x.p0, x.p1, x.p2, x.p3, x.p4, x.p5, x.p6, x.p7, x.p8, x.p9, x.p10, x.p11, x.p12, x.p13, x.p14, x.p15, x.p16, x.p17, x.p18, x.p19, x.p20⟩, 62), (b2, nil21, 62)] w2 from hk)
      clear hk hb2
      (try simp only [Act.put, List.getElem_toArray, List.getElem_cons_succ, List.getElem_cons_zero, List.setIfInBounds_toArray, List.set_cons_zero, List.set_cons_succ])
      refine wpList_val (.bool false) (by rfl) (by go_simp) ?_
      (try simp only [Act.put, List.getElem_toArray, List.getElem_cons_succ, List.getElem_cons_zero, List.setIfInBounds_toArray, List.set_cons_zero, List.set_cons_succ])
      refine wpList_nil ?_
      go_upto_region 1 with fail
      refine wp_region_lit ?_
      refine wpList_val (.pointer (some ⟨b1, 12, none⟩)) (by rfl) (by go_simp) ?_
      (try simp only [Act.put, List.getElem_toArray, List.getElem_cons_succ, List.getElem_cons_zero, List.setIfInBounds_toArray, List.set_cons_zero, List.set_cons_succ])
      refine wpList_val (.int .i64 x.p12) (by rfl) (by have q : w2.cell? ⟨b1, 12, none⟩ = some (.int .i64 x.p12) := K2.out.cell (i := 0) rfl (by rfl); go_simp) ?_
      (try simp only [Act.put, List.getElem_toArray, List.getElem_cons_succ, List.getElem_cons_zero, List.setIfInBounds_toArray, List.set_cons_zero, List.set_cons_succ])
      refine wpList_val (.bool false) (by rfl) (by have q := hi; go_simp) ?_
      (try simp only [Act.put, List.getElem_toArray, List.getElem_cons_succ, List.getElem_cons_zero, List.setIfInBounds_toArray, List.set_cons_zero, List.set_cons_succ])
      refine wpList_nil ?_
      go_upto_region 3 with fail
      refine wp_region_lit ?_
      refine wpList_val (.pointer (some ⟨b1, 18, none⟩)) (by rfl) (by go_simp) ?_
      (try simp only [Act.put, List.getElem_toArray, List.getElem_cons_succ, List.getElem_cons_zero, List.setIfInBounds_toArray, List.set_cons_zero, List.set_cons_succ])
      refine wpList_val (.int .i64 x.p18) (by rfl) (by have q : w2.cell? ⟨b1, 18, none⟩ = some (.int .i64 x.p18) := K2.out.cell (i := 0) rfl (by rfl); go_simp) ?_
      (try simp only [Act.put, List.getElem_toArray, List.getElem_cons_succ, List.getElem_cons_zero, List.setIfInBounds_toArray, List.set_cons_zero, List.set_cons_succ])
      refine wpList_val (.bool true) (by rfl) (by have q := hl; go_simp) ?_
      (try simp only [Act.put, List.getElem_toArray, List.getElem_cons_succ, List.getElem_cons_zero, List.setIfInBounds_toArray, List.set_cons_zero, List.set_cons_succ])
      refine wpList_nil ?_
      go_upto_region 4 with fail
      refine wp_region_lit ?_
      refine wpList_val (.pointer (some ⟨b1, 18, none⟩)) (by rfl) (by go_simp) ?_
      (try simp only [Act.put, List.getElem_toArray, List.getElem_cons_succ, List.getElem_cons_zero, List.setIfInBounds_toArray, List.set_cons_zero, List.set_cons_succ])
      refine wpList_val (.int .i64 x.p18) (by rfl) (by have q : w2.cell? ⟨b1, 18, none⟩ = some (.int .i64 x.p18) := K2.out.cell (i := 0) rfl (by rfl); go_simp) ?_
      (try simp only [Act.put, List.getElem_toArray, List.getElem_cons_succ, List.getElem_cons_zero, List.setIfInBounds_toArray, List.set_cons_zero, List.set_cons_succ])
      refine wpList_val (.int .i64 (IntKind.i64.wrap (x.p18 - 1))) (by rfl) (by go_simp) ?_
      (try simp only [Act.put, List.getElem_toArray, List.getElem_cons_succ, List.getElem_cons_zero, List.setIfInBounds_toArray, List.set_cons_zero, List.set_cons_succ])
      refine wpList_val (.pointer (some ⟨b1, 18, none⟩)) (by rfl) (by go_simp) ?_
      (try simp only [Act.put, List.getElem_toArray, List.getElem_cons_succ, List.getElem_cons_zero, List.setIfInBounds_toArray, List.set_cons_zero, List.set_cons_succ])
      refine kb_set K2.out 0 rfl 3 _ _ 18 (.int .i64 (IntKind.i64.wrap (x.p18 - 1))) rfl (by rfl) rfl rfl (kb_run_set K2.out (i := 0) rfl 3 18 (.int .i64 x.p18) (.int .i64 (IntKind.i64.wrap (x.p18 - 1))) (by rfl) (fun W h1 h2 => by go_simp)) (poA ⟨x.p0, x.p1, x.p2, x.p3, x.p4, x.p5, x.p6, x.p7, x.p8, x.p9, x.p10, x.p11, x.p12, x.p13, x.p14, x.p15, x.p16, x.p17, (IntKind.i64.wrap (x.p18 - 1)), x.p19, x.p20⟩) (by kernel_rfl) ?_
      intro w3 hk
      have K3 := Lib.hid (show Kb w [(b1, poA ⟨x.p0, x.p1, x.p2, x.p3, x.p4, x.p5, x.p6, x.p7, x.p8, x.p9, x.p10, x.p11, x.p12, x.p13, x.p14, x.p15, x.p16, x.p17, (IntKind.i64.wrap (x.p18 - 1)), x.p19, x.p20⟩, 62), (b2, nil21, 62)] w3 from hk)
      clear hk
      (try simp only [Act.put, List.getElem_toArray, List.getElem_cons_succ, List.getElem_cons_zero, List.setIfInBounds_toArray, List.set_cons_zero, List.set_cons_succ])
      refine wpList_nil ?_
      go_upto_region 5 with fail
      refine wp_region_lit ?_
      refine wpList_val (.agg (poA ⟨x.p0, x.p1, x.p2, x.p3, x.p4, x.p5, x.p6, x.p7, x.p8, x.p9, x.p10, x.p11, x.p12, x.p13, x.p14, x.p15, x.p16, x.p17, (IntKind.i64.wrap (x.p18 - 1)), x.p19, x.p20⟩)) (by rfl) (kb_all K3.out 0 rfl 62 _ rfl rfl Try.underlying62 rfl (size50)) ?_
      (try simp only [Act.put, List.getElem_toArray, List.getElem_cons_succ, List.getElem_cons_zero, List.setIfInBounds_toArray, List.set_cons_zero, List.set_cons_succ])
      refine kb_row K3.out 1 rfl 62 _ _ (poA ⟨x.p0, x.p1, x.p2, x.p3, x.p4, x.p5, x.p6, x.p7, x.p8, x.p9, x.p10, x.p11, x.p12, x.p13, x.p14, x.p15, x.p16, x.p17, (IntKind.i64.wrap (x.p18 - 1)), x.p19, x.p20⟩) rfl rfl rfl rfl (size50) (by rfl) (po_all _) ?_
      intro w4 hk
      have K4 := Lib.hid (show Kb w [(b1, poA ⟨x.p0, x.p1, x.p2, x.p3, x.p4, x.p5, x.p6, x.p7, x.p8, x.p9, x.p10, x.p11, x.p12, x.p13, x.p14, x.p15, x.p16, x.p17, (IntKind.i64.wrap (x.p18 - 1)), x.p19, x.p20⟩, 62), (b2, poA ⟨x.p0, x.p1, x.p2, x.p3, x.p4, x.p5, x.p6, x.p7, x.p8, x.p9, x.p10, x.p11, x.p12, x.p13, x.p14, x.p15, x.p16, x.p17, (IntKind.i64.wrap (x.p18 - 1)), x.p19, x.p20⟩, 62)] w4 from hk)
      clear hk
      (try simp only [Act.put, List.getElem_toArray, List.getElem_cons_succ, List.getElem_cons_zero, List.setIfInBounds_toArray, List.set_cons_zero, List.set_cons_succ])
      refine wpList_val (.bool false) (by rfl) (by go_simp) ?_
      (try simp only [Act.put, List.getElem_toArray, List.getElem_cons_succ, List.getElem_cons_zero, List.setIfInBounds_toArray, List.set_cons_zero, List.set_cons_succ])
      refine wpList_nil ?_
      go_wp2_with fail
      refine bodyPost_ret (v := .tuple #[.agg (poA ⟨x.p0, x.p1, x.p2, x.p3, x.p4, x.p5, x.p6, x.p7, x.p8, x.p9, x.p10, x.p11, x.p12, x.p13, x.p14, x.p15, x.p16, x.p17, (IntKind.i64.wrap (x.p18 - 1)), x.p19, x.p20⟩), .bool false]) (results_row_tmp Try.results18 _ _ b2 62 (poA ⟨x.p0, x.p1, x.p2, x.p3, x.p4, x.p5, x.p6, x.p7, x.p8, x.p9, x.p10, x.p11, x.p12, x.p13, x.p14, x.p15, x.p16, x.p17, (IntKind.i64.wrap (x.p18 - 1)), x.p19, x.p20⟩) (.bool false) _ rfl rfl (K4.out.at (i := 1) rfl) Try.underlying62 rfl (po_info _)) rfl ?_
      exact ⟨rfl, K4.out.below⟩
    case neg =>
      have hP : fadeP x = ⟨x.p0, x.p1, x.p2, x.p3, x.p4, x.p5, x.p6, x.p7, x.p8, x.p9, x.p10, x.p11, 0, 0, 0, 0, 0, 0, 0, x.p19, x.p20⟩ := by unfold fadeP; rw [if_pos hi, if_neg hl]
      have hN : fadeB x = true := by simp [fadeB, hi, hl]
      rw [hP, hN]
      clear hP hN
      obtain ⟨A, hA⟩ : ∃ A, A = x := ⟨_, rfl⟩
      rw [show poV x = .agg (poA ⟨x.p0, x.p1, x.p2, x.p3, x.p4, x.p5, x.p6, x.p7, x.p8, x.p9, x.p10, x.p11, x.p12, x.p13, x.p14, x.p15, x.p16, x.p17, x.p18, x.p19, x.p20⟩) from rfl]
      have K := Lib.hid (Kb.nil w)
      go_enter Try.func18, Try.ntmps18
      go_upto_region 0 with fail
      refine wp_region_lit ?_
      refine kb_box K.out 62 (.tmp 0) (poA ⟨x.p0, x.p1, x.p2, x.p3, x.p4, x.p5, x.p6, x.p7, x.p8, x.p9, x.p10, x.p11, x.p12, x.p13, x.p14, x.p15, x.p16, x.p17, x.p18, x.p19, x.p20⟩) rfl rfl (by rfl) ?_
      intro b1 w1 hb1 hk
      have K1 := Lib.hid (show Kb w [(b1, poA ⟨x.p0, x.p1, x.p2, x.p3, x.p4, x.p5, x.p6, x.p7, x.p8, x.p9, x.p10, x.p11, x.p12, x.p13, x.p14, x.p15, x.p16, x.p17, x.p18, x.p19, x.p20⟩, 62)] w1 from hk)
      clear hk hb1
      (try simp only [Act.put, List.getElem_toArray, List.getElem_cons_succ, List.getElem_cons_zero, List.setIfInBounds_toArray, List.set_cons_zero, List.set_cons_succ])
      refine kb_alloc K1.out 62 (nil21) rfl z50 (by rfl) ?_
      intro b2 w2 hb2 hk
      have K2 := Lib.hid (show Kb w [(b1, poA ⟨x.p0, x.p1, x.p2, x.p3, x.p4, x.p5, x.p6, x.p7, x.p8, x.p9, x.p10, x.p11, x.p12, x.p13, x.p14, x.p15, x.p16, x.p17, x.p18, x.p19, x.p20⟩, 62), (b2, nil21, 62)] w2 from hk)
      clear hk hb2
      (try simp only [Act.put, List.getElem_toArray, List.getElem_cons_succ, List.getElem_cons_zero, List.setIfInBounds_toArray, List.set_cons_zero, List.set_cons_succ])
      refine wpList_val (.bool false) (by rfl) (by go_simp) ?_
      (try simp only [Act.put, List.getElem_toArray, List.getElem_cons_succ, List.getElem_cons_zero, List.setIfInBounds_toArray, List.set_cons_zero, List.set_cons_succ])
      refine wpList_nil ?_
      go_upto_region 1 with fail
      refine wp_region_lit ?_
      refine wpList_val (.pointer (some ⟨b1, 12, none⟩)) (by rfl) (by go_simp) ?_
      (try simp only [Act.put, List.getElem_toArray, List.getElem_cons_succ, List.getElem_cons_zero, List.setIfInBounds_toArray, List.set_cons_zero, List.set_cons_succ])
      refine wpList_val (.int .i64 x.p12) (by rfl) (by have q : w2.cell? ⟨b1, 12, none⟩ = some (.int .i64 x.p12) := K2.out.cell (i := 0) rfl (by rfl); go_simp) ?_
      (try simp only [Act.put, List.getElem_toArray, List.getElem_cons_succ, List.getElem_cons_zero, List.setIfInBounds_toArray, List.set_cons_zero, List.set_cons_succ])
      refine wpList_val (.bool false) (by rfl) (by have q := hi; go_simp) ?_
      (try simp only [Act.put, List.getElem_toArray, List.getElem_cons_succ, List.getElem_cons_zero, List.setIfInBounds_toArray, List.set_cons_zero, List.set_cons_succ])
      refine wpList_nil ?_
      go_upto_region 3 with fail
      refine wp_region_lit ?_
      refine wpList_val (.pointer (some ⟨b1, 18, none⟩)) (by rfl) (by go_simp) ?_
      (try simp only [Act.put, List.getElem_toArray, List.getElem_cons_succ, List.getElem_cons_zero, List.setIfInBounds_toArray, List.set_cons_zero, List.set_cons_succ])
      refine wpList_val (.int .i64 x.p18) (by rfl) (by have q : w2.cell? ⟨b1, 18, none⟩ = some (.int .i64 x.p18) := K2.out.cell (i := 0) rfl (by rfl); go_simp) ?_
      (try simp only [Act.put, List.getElem_toArray, List.getElem_cons_succ, List.getElem_cons_zero, List.setIfInBounds_toArray, List.set_cons_zero, List.set_cons_succ])
      refine wpList_val (.bool false) (by rfl) (by have q := hl; go_simp) ?_
      (try simp only [Act.put, List.getElem_toArray, List.getElem_cons_succ, List.getElem_cons_zero, List.setIfInBounds_toArray, List.set_cons_zero, List.set_cons_succ])
      refine wpList_nil ?_
      go_upto_region 6 with fail
      refine wp_region_lit ?_
      refine wpList_val (.agg (nil4)) (by rfl) (run_build_of 44 [] rfl [] nil4 rfl (by kernel_rfl)) ?_
      (try simp only [Act.put, List.getElem_toArray, List.getElem_cons_succ, List.getElem_cons_zero, List.setIfInBounds_toArray, List.set_cons_zero, List.set_cons_succ])
      refine wpList_val (.pointer (some ⟨b1, 12, none⟩)) (by rfl) (by go_simp) ?_
      (try simp only [Act.put, List.getElem_toArray, List.getElem_cons_succ, List.getElem_cons_zero, List.setIfInBounds_toArray, List.set_cons_zero, List.set_cons_succ])
      refine kb_set K2.out 0 rfl 3 _ _ 12 (.int .i64 0) rfl (by rfl) rfl rfl (kb_run_set K2.out (i := 0) rfl 3 12 (.int .i64 x.p12) (.int .i64 0) (by rfl) (fun W h1 h2 => by go_simp)) (poA ⟨x.p0, x.p1, x.p2, x.p3, x.p4, x.p5, x.p6, x.p7, x.p8, x.p9, x.p10, x.p11, 0, x.p13, x.p14, x.p15, x.p16, x.p17, x.p18, x.p19, x.p20⟩) (by kernel_rfl) ?_
      intro w3 hk
      have K3 := Lib.hid (show Kb w [(b1, poA ⟨x.p0, x.p1, x.p2, x.p3, x.p4, x.p5, x.p6, x.p7, x.p8, x.p9, x.p10, x.p11, 0, x.p13, x.p14, x.p15, x.p16, x.p17, x.p18, x.p19, x.p20⟩, 62), (b2, nil21, 62)] w3 from hk)
      clear hk
      (try simp only [Act.put, List.getElem_toArray, List.getElem_cons_succ, List.getElem_cons_zero, List.setIfInBounds_toArray, List.set_cons_zero, List.set_cons_succ])
      refine wpList_val (.pointer (some ⟨b1, 13, none⟩)) (by rfl) (by go_simp) ?_
      (try simp only [Act.put, List.getElem_toArray, List.getElem_cons_succ, List.getElem_cons_zero, List.setIfInBounds_toArray, List.set_cons_zero, List.set_cons_succ])
      refine kb_mid K3.out 0 rfl 44 _ _ 13 (nil4) rfl rfl rfl rfl (sizeV) (Nat.le_of_ble_eq_true (by kernel_rfl)) (by kernel_rfl) (poA ⟨x.p0, x.p1, x.p2, x.p3, x.p4, x.p5, x.p6, x.p7, x.p8, x.p9, x.p10, x.p11, 0, 0, 0, 0, 0, x.p17, x.p18, x.p19, x.p20⟩) (by kernel_rfl) ?_
      intro w4 hk
      have K4 := Lib.hid (show Kb w [(b1, poA ⟨x.p0, x.p1, x.p2, x.p3, x.p4, x.p5, x.p6, x.p7, x.p8, x.p9, x.p10, x.p11, 0, 0, 0, 0, 0, x.p17, x.p18, x.p19, x.p20⟩, 62), (b2, nil21, 62)] w4 from hk)
      clear hk
      (try simp only [Act.put, List.getElem_toArray, List.getElem_cons_succ, List.getElem_cons_zero, List.setIfInBounds_toArray, List.set_cons_zero, List.set_cons_succ])
      refine wpList_val (.pointer (some ⟨b1, 17, none⟩)) (by rfl) (by go_simp) ?_
      (try simp only [Act.put, List.getElem_toArray, List.getElem_cons_succ, List.getElem_cons_zero, List.setIfInBounds_toArray, List.set_cons_zero, List.set_cons_succ])
      refine kb_set K4.out 0 rfl 3 _ _ 17 (.int .i64 0) rfl (by rfl) rfl rfl (kb_run_set K4.out (i := 0) rfl 3 17 (.int .i64 x.p17) (.int .i64 0) (by rfl) (fun W h1 h2 => by go_simp)) (poA ⟨x.p0, x.p1, x.p2, x.p3, x.p4, x.p5, x.p6, x.p7, x.p8, x.p9, x.p10, x.p11, 0, 0, 0, 0, 0, 0, x.p18, x.p19, x.p20⟩) (by kernel_rfl) ?_
      intro w5 hk
      have K5 := Lib.hid (show Kb w [(b1, poA ⟨x.p0, x.p1, x.p2, x.p3, x.p4, x.p5, x.p6, x.p7, x.p8, x.p9, x.p10, x.p11, 0, 0, 0, 0, 0, 0, x.p18, x.p19, x.p20⟩, 62), (b2, nil21, 62)] w5 from hk)
      clear hk
      (try simp only [Act.put, List.getElem_toArray, List.getElem_cons_succ, List.getElem_cons_zero, List.setIfInBounds_toArray, List.set_cons_zero, List.set_cons_succ])
      refine wpList_val (.pointer (some ⟨b1, 18, none⟩)) (by rfl) (by go_simp) ?_
      (try simp only [Act.put, List.getElem_toArray, List.getElem_cons_succ, List.getElem_cons_zero, List.setIfInBounds_toArray, List.set_cons_zero, List.set_cons_succ])
      refine kb_set K5.out 0 rfl 3 _ _ 18 (.int .i64 0) rfl (by rfl) rfl rfl (kb_run_set K5.out (i := 0) rfl 3 18 (.int .i64 x.p18) (.int .i64 0) (by rfl) (fun W h1 h2 => by go_simp)) (poA ⟨x.p0, x.p1, x.p2, x.p3, x.p4, x.p5, x.p6, x.p7, x.p8, x.p9, x.p10, x.p11, 0, 0, 0, 0, 0, 0, 0, x.p19, x.p20⟩) (by kernel_rfl) ?_
      intro w6 hk
      have K6 := Lib.hid (show Kb w [(b1, poA ⟨x.p0, x.p1, x.p2, x.p3, x.p4, x.p5, x.p6, x.p7, x.p8, x.p9, x.p10, x.p11, 0, 0, 0, 0, 0, 0, 0, x.p19, x.p20⟩, 62), (b2, nil21, 62)] w6 from hk)
      clear hk
      (try simp only [Act.put, List.getElem_toArray, List.getElem_cons_succ, List.getElem_cons_zero, List.setIfInBounds_toArray, List.set_cons_zero, List.set_cons_succ])
      refine wpList_nil ?_
      go_upto_region 7 with fail
      refine wp_region_lit ?_
      refine wpList_val (.agg (poA ⟨x.p0, x.p1, x.p2, x.p3, x.p4, x.p5, x.p6, x.p7, x.p8, x.p9, x.p10, x.p11, 0, 0, 0, 0, 0, 0, 0, x.p19, x.p20⟩)) (by rfl) (kb_all K6.out 0 rfl 62 _ rfl rfl Try.underlying62 rfl (size50)) ?_
      (try simp only [Act.put, List.getElem_toArray, List.getElem_cons_succ, List.getElem_cons_zero, List.setIfInBounds_toArray, List.set_cons_zero, List.set_cons_succ])
      refine kb_row K6.out 1 rfl 62 _ _ (poA ⟨x.p0, x.p1, x.p2, x.p3, x.p4, x.p5, x.p6, x.p7, x.p8, x.p9, x.p10, x.p11, 0, 0, 0, 0, 0, 0, 0, x.p19, x.p20⟩) rfl rfl rfl rfl (size50) (by rfl) (po_all _) ?_
      intro w7 hk
      have K7 := Lib.hid (show Kb w [(b1, poA ⟨x.p0, x.p1, x.p2, x.p3, x.p4, x.p5, x.p6, x.p7, x.p8, x.p9, x.p10, x.p11, 0, 0, 0, 0, 0, 0, 0, x.p19, x.p20⟩, 62), (b2, poA ⟨x.p0, x.p1, x.p2, x.p3, x.p4, x.p5, x.p6, x.p7, x.p8, x.p9, x.p10, x.p11, 0, 0, 0, 0, 0, 0, 0, x.p19, x.p20⟩, 62)] w7 from hk)
      clear hk
      (try simp only [Act.put, List.getElem_toArray, List.getElem_cons_succ, List.getElem_cons_zero, List.setIfInBounds_toArray, List.set_cons_zero, List.set_cons_succ])
      refine wpList_val (.bool true) (by rfl) (by go_simp) ?_
      (try simp only [Act.put, List.getElem_toArray, List.getElem_cons_succ, List.getElem_cons_zero, List.setIfInBounds_toArray, List.set_cons_zero, List.set_cons_succ])
      refine wpList_nil ?_
      go_wp2_with fail
      refine bodyPost_ret (v := .tuple #[.agg (poA ⟨x.p0, x.p1, x.p2, x.p3, x.p4, x.p5, x.p6, x.p7, x.p8, x.p9, x.p10, x.p11, 0, 0, 0, 0, 0, 0, 0, x.p19, x.p20⟩), .bool true]) (results_row_tmp Try.results18 _ _ b2 62 (poA ⟨x.p0, x.p1, x.p2, x.p3, x.p4, x.p5, x.p6, x.p7, x.p8, x.p9, x.p10, x.p11, 0, 0, 0, 0, 0, 0, 0, x.p19, x.p20⟩) (.bool true) _ rfl rfl (K7.out.at (i := 1) rfl) Try.underlying62 rfl (po_info _)) rfl ?_
      exact ⟨rfl, K7.out.below⟩
end Go.Proofs.Ytojijeaofkndpaa
