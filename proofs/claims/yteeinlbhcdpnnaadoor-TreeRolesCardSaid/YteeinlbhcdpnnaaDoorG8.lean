import Derived.Test.YteeinlbhcdpnnaaDoorG4
import Derived.Test.YteeinlbhcdpnnaaDoorG2
import Derived.Test.YteeinlbhcdpnnaaDoorG5
import Derived.Test.YteeinlbhcdpnnaaDoorG7
set_option linter.unusedSimpArgs false
set_option linter.unusedVariables false
namespace Go.Proofs.YteeinlbhcdpnnaaDoor
section
open Go.RowKit
attribute [local irreducible] wpQuiet wpList
set_option maxRecDepth 100000 in
set_option maxHeartbeats 8000000 in
theorem step_any (x : Po) (c : Cf) (w : World) : Calls Tryd.prog 38 #[poV x, cfV c] w fun e w' => e = .returned (.tuple #[poV (stepP x c.p3), .bool (openedB x (stepP x c.p3))]) ∧ Below w.heap.size w w' := by
 by_cases hr : x.p10 = 4
 case neg =>
  have hP : stepP x c.p3 = x := by unfold stepP; rw [if_neg hr]
  have hO : openedB x x = false := by simp [openedB]
  rw [hP, hO]
  have HOP := Lib.hid hO
  clear hP hO
  have HR := Lib.hid hr
  clear hr
  have K := Lib.hid (Kb.nil w)
  go_enter Tryd.func38, Tryd.ntmps38
  go_upto_region 0 with fail
  refine wp_region_lit ?_
  refine kb_box K.out 73 (.tmp 0) (poA x) rfl rfl (by rfl) (pz (h := ?_))
  intro b1 w1 K1
  refine kb_box K1.out 31 (.tmp 1) (cfA c) rfl rfl (by rfl) (pz (h := ?_))
  intro b2 w2 K2
  refine kb_alloc K2.out 73 (nil21) rfl z50 (by rfl) (pz (h := ?_))
  intro b3 w3 K3
  refine wz1 (.bool false) (h := nz ?_)
  go_upto_region 1 with fail
  refine lz (wz4 (pT b1 10) (iV x.p10) (.bool true) (.bool true) (h2 := by have q : w3.cell? ⟨b1, 10, none⟩ = some (iV x.p10) := K3.out.cell (i := 0) rfl (by rfl); go_simp) (h3 := by have q := HR.out; go_simp) (h := wk (h := wk (h := wk (h := wz1 (.bool true) (h1 := by exact run_pick_yes (.tmp 10) (.const (.bool true)) (.tmp 13) _ rfl rfl rfl) (h := nz ?_))))))
  go_upto_region 2 with fail
  refine lz (wz1 (.agg (poA x)) (h1 := by exact kb_all K3.out 0 rfl 73 _ rfl rfl Tryd.underlying73 rfl (size50)) (h := ?_))
  refine kb_row K3.out 2 rfl 73 _ _ (poA x) rfl rfl rfl rfl (size50) (by rfl) (po_all _) (py (h := ?_))
  intro w4 K4
  refine wz1 (.bool false) (h := nz ?_)
  go_wp2_with fail
  refine bodyPost_ret (v := .tuple #[.agg (poA x), .bool false]) (results_row_tmp Tryd.results38 _ _ b3 73 (poA x) (.bool false) _ rfl rfl (K4.out.at (i := 2) rfl) Tryd.underlying73 rfl (po_info _)) rfl ?_
  exact ⟨rfl, K4.out.below⟩
 case pos =>
  by_cases hs : x.p11 = 2
  case pos =>
   have hP : stepP x c.p3 = x := by unfold stepP; rw [if_pos hr, if_pos hs]
   have hO : openedB x x = false := by simp [openedB, hs]
   rw [hP, hO]
   have HOP := Lib.hid hO
   clear hP hO
   have HR := Lib.hid hr
   clear hr
   have HS := Lib.hid hs
   clear hs
   have K := Lib.hid (Kb.nil w)
   go_enter Tryd.func38, Tryd.ntmps38
   go_upto_region 0 with fail
   refine wp_region_lit ?_
   refine kb_box K.out 73 (.tmp 0) (poA x) rfl rfl (by rfl) (pz (h := ?_))
   intro b1 w1 K1
   refine kb_box K1.out 31 (.tmp 1) (cfA c) rfl rfl (by rfl) (pz (h := ?_))
   intro b2 w2 K2
   refine kb_alloc K2.out 73 (nil21) rfl z50 (by rfl) (pz (h := ?_))
   intro b3 w3 K3
   refine wz1 (.bool false) (h := nz ?_)
   go_upto_region 1 with fail
   refine lz (wz6 (pT b1 10) (iV x.p10) (.bool false) (.bool false) (pT b1 11) (iV x.p11) (h2 := by have q : w3.cell? ⟨b1, 10, none⟩ = some (iV x.p10) := K3.out.cell (i := 0) rfl (by rfl); go_simp) (h3 := by have q := HR.out; go_simp) (h6 := by have q : w3.cell? ⟨b1, 11, none⟩ = some (iV x.p11) := K3.out.cell (i := 0) rfl (by rfl); go_simp) (h := wz2 (.bool true) (.bool true) (h1 := by have q := HS.out; go_simp) (h2 := by exact run_pick_no (.tmp 10) (.const (.bool true)) (.tmp 13) _ rfl rfl rfl) (h := nz ?_)))
   go_upto_region 2 with fail
   refine lz (wz1 (.agg (poA x)) (h1 := by exact kb_all K3.out 0 rfl 73 _ rfl rfl Tryd.underlying73 rfl (size50)) (h := ?_))
   refine kb_row K3.out 2 rfl 73 _ _ (poA x) rfl rfl rfl rfl (size50) (by rfl) (po_all _) (py (h := ?_))
   intro w4 K4
   refine wz1 (.bool false) (h := nz ?_)
   go_wp2_with fail
   refine bodyPost_ret (v := .tuple #[.agg (poA x), .bool false]) (results_row_tmp Tryd.results38 _ _ b3 73 (poA x) (.bool false) _ rfl rfl (K4.out.at (i := 2) rfl) Tryd.underlying73 rfl (po_info _)) rfl ?_
   exact ⟨rfl, K4.out.below⟩
  case neg =>
   by_cases hl : 1 < x.p19
   case pos =>
    have hP : stepP x c.p3 = { x with p19 := (IntKind.i64.wrap (x.p19 - 1)) } := by unfold stepP; rw [if_pos hr, if_neg hs, if_pos hl]
    have hO : openedB x { x with p19 := (IntKind.i64.wrap (x.p19 - 1)) } = false := by simp [openedB, hs]
    rw [hP, hO]
    have HOP := Lib.hid hO
    clear hP hO
    have HR := Lib.hid hr
    clear hr
    have HS := Lib.hid hs
    clear hs
    have HL := Lib.hid hl
    clear hl
    have K := Lib.hid (Kb.nil w)
    go_enter Tryd.func38, Tryd.ntmps38
    go_upto_region 0 with fail
    refine wp_region_lit ?_
    refine kb_box K.out 73 (.tmp 0) (poA x) rfl rfl (by rfl) (pz (h := ?_))
    intro b1 w1 K1
    refine kb_box K1.out 31 (.tmp 1) (cfA c) rfl rfl (by rfl) (pz (h := ?_))
    intro b2 w2 K2
    refine kb_alloc K2.out 73 (nil21) rfl z50 (by rfl) (pz (h := ?_))
    intro b3 w3 K3
    refine wz1 (.bool false) (h := nz ?_)
    go_upto_region 1 with fail
    refine lz (wz6 (pT b1 10) (iV x.p10) (.bool false) (.bool false) (pT b1 11) (iV x.p11) (h2 := by have q : w3.cell? ⟨b1, 10, none⟩ = some (iV x.p10) := K3.out.cell (i := 0) rfl (by rfl); go_simp) (h3 := by have q := HR.out; go_simp) (h6 := by have q : w3.cell? ⟨b1, 11, none⟩ = some (iV x.p11) := K3.out.cell (i := 0) rfl (by rfl); go_simp) (h := wz2 (.bool false) (.bool false) (h1 := by have q := HS.out; go_simp) (h2 := by exact run_pick_no (.tmp 10) (.const (.bool true)) (.tmp 13) _ rfl rfl rfl) (h := nz ?_)))
    go_upto_region 3 with fail
    refine lz (wz1 (.agg (poA x)) (h1 := by exact kb_all K3.out 0 rfl 73 _ rfl rfl Tryd.underlying73 rfl (size50)) (h := ?_))
    refine kb_alloc K3.out 73 (nil21) rfl z50 (by rfl) (pz (h := ?_))
    intro b4 w4 K4
    refine kb_row K4.out 3 rfl 73 _ _ (poA x) rfl rfl rfl rfl (size50) (by rfl) (po_all _) (py (h := ?_))
    intro w5 K5
    refine wpList_nil ?_
    go_upto_region 4 with fail
    refine lz (wz4 (pT b1 19) (iV x.p19) (iV (IntKind.i64.wrap (x.p19 - 1))) (pT b1 19) (h2 := by have q : w5.cell? ⟨b1, 19, none⟩ = some (iV x.p19) := K5.out.cell (i := 0) rfl (by rfl); go_simp) (h := ?_))
    refine kb_set K5.out 0 rfl 3 _ _ 19 (.int .i64 (IntKind.i64.wrap (x.p19 - 1))) rfl (by rfl) rfl rfl (kb_run_set K5.out (i := 0) rfl 3 19 (.int .i64 x.p19) (.int .i64 (IntKind.i64.wrap (x.p19 - 1))) (by rfl) (fun W h1 h2 => by go_simp)) (poA { x with p19 := (IntKind.i64.wrap (x.p19 - 1)) }) (by kernel_rfl) (py (h := ?_))
    intro w6 K6
    refine wpList_nil ?_
    go_upto_region 5 with fail
    refine lz (wz3 (pT b4 19) (iV x.p19) (.bool true) (h2 := by have q : w6.cell? ⟨b4, 19, none⟩ = some (iV x.p19) := K6.out.cell (i := 3) rfl (by rfl); go_simp) (h3 := by have q := HL.out; go_simp) (h := nz ?_))
    go_upto_region 6 with fail
    refine lz (wz1 (.agg (poA { x with p19 := (IntKind.i64.wrap (x.p19 - 1)) })) (h1 := by exact kb_all K6.out 0 rfl 73 _ rfl rfl Tryd.underlying73 rfl (size50)) (h := ?_))
    refine kb_row K6.out 2 rfl 73 _ _ (poA { x with p19 := (IntKind.i64.wrap (x.p19 - 1)) }) rfl rfl rfl rfl (size50) (by rfl) (po_all _) (py (h := ?_))
    intro w7 K7
    refine wz1 (.bool false) (h := nz ?_)
    go_wp2_with fail
    refine bodyPost_ret (v := .tuple #[.agg (poA { x with p19 := (IntKind.i64.wrap (x.p19 - 1)) }), .bool false]) (results_row_tmp Tryd.results38 _ _ b3 73 (poA { x with p19 := (IntKind.i64.wrap (x.p19 - 1)) }) (.bool false) _ rfl rfl (K7.out.at (i := 2) rfl) Tryd.underlying73 rfl (po_info _)) rfl ?_
    exact ⟨rfl, K7.out.below⟩
   case neg =>
    by_cases hz : x.p11 = 0
    case pos =>
     have hP : stepP x c.p3 = { x with p11 := 1, p19 := c.p3 } := by unfold stepP; rw [if_pos hr, if_neg hs, if_neg hl, if_pos hz]
     have hO : openedB x { x with p11 := 1, p19 := c.p3 } = false := by simp [openedB, hs]
     rw [hP, hO]
     have HOP := Lib.hid hO
     clear hP hO
     have HR := Lib.hid hr
     clear hr
     have HS := Lib.hid hs
     clear hs
     have HL := Lib.hid hl
     clear hl
     have HZ := Lib.hid hz
     clear hz
     have K := Lib.hid (Kb.nil w)
     go_enter Tryd.func38, Tryd.ntmps38
     go_upto_region 0 with fail
     refine wp_region_lit ?_
     refine kb_box K.out 73 (.tmp 0) (poA x) rfl rfl (by rfl) (pz (h := ?_))
     intro b1 w1 K1
     refine kb_box K1.out 31 (.tmp 1) (cfA c) rfl rfl (by rfl) (pz (h := ?_))
     intro b2 w2 K2
     refine kb_alloc K2.out 73 (nil21) rfl z50 (by rfl) (pz (h := ?_))
     intro b3 w3 K3
     refine wz1 (.bool false) (h := nz ?_)
     go_upto_region 1 with fail
     refine lz (wz6 (pT b1 10) (iV x.p10) (.bool false) (.bool false) (pT b1 11) (iV x.p11) (h2 := by have q : w3.cell? ⟨b1, 10, none⟩ = some (iV x.p10) := K3.out.cell (i := 0) rfl (by rfl); go_simp) (h3 := by have q := HR.out; go_simp) (h6 := by have q : w3.cell? ⟨b1, 11, none⟩ = some (iV x.p11) := K3.out.cell (i := 0) rfl (by rfl); go_simp) (h := wz2 (.bool false) (.bool false) (h1 := by have q := HS.out; go_simp) (h2 := by exact run_pick_no (.tmp 10) (.const (.bool true)) (.tmp 13) _ rfl rfl rfl) (h := nz ?_)))
     go_upto_region 3 with fail
     refine lz (wz1 (.agg (poA x)) (h1 := by exact kb_all K3.out 0 rfl 73 _ rfl rfl Tryd.underlying73 rfl (size50)) (h := ?_))
     refine kb_alloc K3.out 73 (nil21) rfl z50 (by rfl) (pz (h := ?_))
     intro b4 w4 K4
     refine kb_row K4.out 3 rfl 73 _ _ (poA x) rfl rfl rfl rfl (size50) (by rfl) (po_all _) (py (h := ?_))
     intro w5 K5
     refine wpList_nil ?_
     go_upto_region 4 with fail
     refine lz (wz4 (pT b1 19) (iV x.p19) (iV (IntKind.i64.wrap (x.p19 - 1))) (pT b1 19) (h2 := by have q : w5.cell? ⟨b1, 19, none⟩ = some (iV x.p19) := K5.out.cell (i := 0) rfl (by rfl); go_simp) (h := ?_))
     refine kb_set K5.out 0 rfl 3 _ _ 19 (.int .i64 (IntKind.i64.wrap (x.p19 - 1))) rfl (by rfl) rfl rfl (kb_run_set K5.out (i := 0) rfl 3 19 (.int .i64 x.p19) (.int .i64 (IntKind.i64.wrap (x.p19 - 1))) (by rfl) (fun W h1 h2 => by go_simp)) (poA { x with p19 := (IntKind.i64.wrap (x.p19 - 1)) }) (by kernel_rfl) (py (h := ?_))
     intro w6 K6
     refine wpList_nil ?_
     go_upto_region 5 with fail
     refine lz (wz3 (pT b4 19) (iV x.p19) (.bool false) (h2 := by have q : w6.cell? ⟨b4, 19, none⟩ = some (iV x.p19) := K6.out.cell (i := 3) rfl (by rfl); go_simp) (h3 := by have q := HL.out; go_simp) (h := nz ?_))
     go_upto_region 7 with fail
     refine lz (wz2 (pT b1 11) (iV x.p11) (h2 := by have q : w6.cell? ⟨b1, 11, none⟩ = some (iV x.p11) := K6.out.cell (i := 0) rfl (by rfl); go_simp) (h := nz ?_))
     go_upto_region 8 with fail
     refine lz (wz2 (.bool true) (.bool true) (h1 := by have q := HZ.out; go_simp) (h := nz ?_))
     go_upto_region 9 with fail
     refine rk (fun (_ : Unit) => [pT b2 3, iV c.p3, pT b1 11, undef, pT b1 19, undef]) (fun _ Lx w' => Kb w [(b1, poA { x with p11 := (bif Lx 3 then 1 else x.p11), p19 := (bif Lx 5 then c.p3 else (IntKind.i64.wrap (x.p19 - 1))) }, 73), (b2, cfA c, 31), (b3, nil21, 73), (b4, poA x, 73)] w') (()) [] [(1, fun _ => ⟨b2, 3, none⟩)] [(3, fun _ => [(31, pT b1 11)]), (5, fun _ => [(30, iV c.p3), (32, pT b1 19)])] [3, 5] (K6.out.drew) (fun _ Lx w' hw => ⟨fun _ => Kb.cell (i := 1) hw rfl (by rfl), trivial⟩) (fun _ L1 L2 _ e h => by (try dsimp only at h ⊢); rw [← e 3 (by decide), ← e 5 (by decide)]; exact h) ?_ ?_
     ·
      refine ⟨?_, ?_, trivial⟩ <;> (rintro _ Lx w' hw hL haft hdc ρ hc hf hG hs o ho; cases ho; try dsimp only [pT, iV, seen] at hw hs)
      ·
       obtain ⟨e31, _⟩ := hs
       exact ss 3 _ _ rfl ⟨b1, 11, none⟩ (iV 1) e31 (hc _) (kb_run_set hw (i := 0) rfl 3 11 (iV (bif Lx 3 then 1 else x.p11)) (iV 1) (by rfl) (fun W h1 h2 => by go_simp)) ⟨(), fun _ _ => rfl, rfl, cast_blk (Kb.set (i := 0) hw rfl 11 (iV 1)) (by rfl)⟩
      ·
       obtain ⟨e30, e32, _⟩ := hs
       exact ss 3 _ _ rfl ⟨b1, 19, none⟩ (iV c.p3) e32 e30 (kb_run_set hw (i := 0) rfl 3 19 (iV (bif Lx 5 then c.p3 else (IntKind.i64.wrap (x.p19 - 1)))) (iV c.p3) (by rfl) (fun W h1 h2 => by go_simp)) ⟨(), fun _ _ => rfl, rfl, cast_blk (Kb.set (i := 0) hw rfl 19 (iV c.p3)) (by rfl)⟩
     intro _ Lx w7 hw hall
     try dsimp only at hw
     simp only [pT, iV, List.toList_toArray, putsZ_some, putsZ_none, putsZ_nil, List.setIfInBounds_toArray, List.set_cons_zero, List.set_cons_succ]
     have hL3 := hall 3 (by decide)
     have hL5 := hall 5 (by decide)
     simp only [hL3, hL5, cond_true] at hw
     have K7 := Lib.hid hw
     clear hw hall hL3 hL5
     go_upto_region 12 with fail
     refine rk (fun (_ : Unit) => [.agg (poA { x with p11 := 1, p19 := c.p3 }), .agg (poA x), .agg (poA { x with p11 := 1, p19 := c.p3 }), .bool false, undef, .bool false]) (fun _ Lx w' => Kb w [(b1, poA { x with p11 := 1, p19 := c.p3 }, 73), (b2, cfA c, 31), (b3, bif Lx 4 then poA { x with p11 := 1, p19 := c.p3 } else nil21, 73), (b4, poA x, 73)] w') (()) [] [] [(0, fun _ => [(2, pT b1 0)]), (1, fun _ => [(6, pT b4 0)]), (2, fun _ => [(2, pT b1 0)]), (3, fun _ => [(38, .agg (poA x)), (39, .agg (poA { x with p11 := 1, p19 := c.p3 }))]), (4, fun _ => [(4, pT b3 0), (37, .agg (poA { x with p11 := 1, p19 := c.p3 }))])] [4] (K7.out.drew) (fun _ _ _ _ => trivial) (fun _ L1 L2 _ e h => by (try dsimp only at h ⊢); rw [← e 4 (by decide)]; exact h) ?_ ?_
     ·
      refine ⟨?_, ?_, ?_, ?_, ?_, trivial⟩ <;> (rintro _ Lx w' hw hL haft hdc ρ hc hf hG hs o ho; cases ho; try dsimp only [pT, iV, seen] at hw hs)
      ·
       obtain ⟨e2, _⟩ := hs
       exact sq (.agg (poA { x with p11 := 1, p19 := c.p3 })) (l_var 73 _ rfl _ e2 _ _ _ (Kb.at (i := 0) hw rfl) Tryd.underlying73 rfl (size50))
      ·
       obtain ⟨e6, _⟩ := hs
       exact sq (.agg (poA x)) (l_var 73 _ rfl _ e6 _ _ _ (Kb.at (i := 3) hw rfl) Tryd.underlying73 rfl (size50))
      ·
       obtain ⟨e2, _⟩ := hs
       exact sq (.agg (poA { x with p11 := 1, p19 := c.p3 })) (l_var 73 _ rfl _ e2 _ _ _ (Kb.at (i := 0) hw rfl) Tryd.underlying73 rfl (size50))
      ·
       exact sc (.bool false) 62 #[.agg (poA x), .agg (poA { x with p11 := 1, p19 := c.p3 })] (opened_is x { x with p11 := 1, p19 := c.p3 } false HOP.out w') (by go_simp) (fun w2 hb => ⟨(), fun _ _ => rfl, rfl, hw.next hb⟩)
      ·
       obtain ⟨e4, e37, _⟩ := hs
       exact sr 73 _ _ rfl b3 (poA { x with p11 := 1, p19 := c.p3 }) e4 e37 73 (bif Lx 4 then poA { x with p11 := 1, p19 := c.p3 } else nil21) (Kb.at (i := 2) hw rfl) (size50) (by rw [hL]; rfl) (po_all _) ⟨(), fun _ _ => rfl, rfl, cast_blk (Kb.row (i := 2) hw rfl (poA { x with p11 := 1, p19 := c.p3 })) (by rfl)⟩
     intro _ Lx w8 hw hall
     try dsimp only at hw
     simp only [pT, iV, List.toList_toArray, putsZ_some, putsZ_none, putsZ_nil, List.setIfInBounds_toArray, List.set_cons_zero, List.set_cons_succ]
     have hL4 := hall 4 (by decide)
     simp only [hL4, cond_true] at hw
     have K8 := Lib.hid hw
     clear hw hall hL4
     go_wp2_with fail
     refine bodyPost_ret (v := .tuple #[.agg (poA { x with p11 := 1, p19 := c.p3 }), .bool false]) (results_row_tmp Tryd.results38 _ _ b3 73 (poA { x with p11 := 1, p19 := c.p3 }) (.bool false) _ rfl rfl (K8.out.at (i := 2) rfl) Tryd.underlying73 rfl (po_info _)) rfl ?_
     exact ⟨rfl, K8.out.below⟩
    case neg =>
     by_cases hy : x.p11 = 1
     case pos =>
      have hP : stepP x c.p3 = { x with p11 := 2, p19 := 0 } := by unfold stepP; rw [if_pos hr, if_neg hs, if_neg hl, if_neg hz, if_pos hy]
      have hO : openedB x { x with p11 := 2, p19 := 0 } = true := by simp [openedB, hs]
      rw [hP, hO]
      have HOP := Lib.hid hO
      clear hP hO
      have HR := Lib.hid hr
      clear hr
      have HS := Lib.hid hs
      clear hs
      have HL := Lib.hid hl
      clear hl
      have HZ := Lib.hid hz
      clear hz
      have HY := Lib.hid hy
      clear hy
      have K := Lib.hid (Kb.nil w)
      go_enter Tryd.func38, Tryd.ntmps38
      go_upto_region 0 with fail
      refine wp_region_lit ?_
      refine kb_box K.out 73 (.tmp 0) (poA x) rfl rfl (by rfl) (pz (h := ?_))
      intro b1 w1 K1
      refine kb_box K1.out 31 (.tmp 1) (cfA c) rfl rfl (by rfl) (pz (h := ?_))
      intro b2 w2 K2
      refine kb_alloc K2.out 73 (nil21) rfl z50 (by rfl) (pz (h := ?_))
      intro b3 w3 K3
      refine wz1 (.bool false) (h := nz ?_)
      go_upto_region 1 with fail
      refine lz (wz6 (pT b1 10) (iV x.p10) (.bool false) (.bool false) (pT b1 11) (iV x.p11) (h2 := by have q : w3.cell? ⟨b1, 10, none⟩ = some (iV x.p10) := K3.out.cell (i := 0) rfl (by rfl); go_simp) (h3 := by have q := HR.out; go_simp) (h6 := by have q : w3.cell? ⟨b1, 11, none⟩ = some (iV x.p11) := K3.out.cell (i := 0) rfl (by rfl); go_simp) (h := wz2 (.bool false) (.bool false) (h1 := by have q := HS.out; go_simp) (h2 := by exact run_pick_no (.tmp 10) (.const (.bool true)) (.tmp 13) _ rfl rfl rfl) (h := nz ?_)))
      go_upto_region 3 with fail
      refine lz (wz1 (.agg (poA x)) (h1 := by exact kb_all K3.out 0 rfl 73 _ rfl rfl Tryd.underlying73 rfl (size50)) (h := ?_))
      refine kb_alloc K3.out 73 (nil21) rfl z50 (by rfl) (pz (h := ?_))
      intro b4 w4 K4
      refine kb_row K4.out 3 rfl 73 _ _ (poA x) rfl rfl rfl rfl (size50) (by rfl) (po_all _) (py (h := ?_))
      intro w5 K5
      refine wpList_nil ?_
      go_upto_region 4 with fail
      refine lz (wz4 (pT b1 19) (iV x.p19) (iV (IntKind.i64.wrap (x.p19 - 1))) (pT b1 19) (h2 := by have q : w5.cell? ⟨b1, 19, none⟩ = some (iV x.p19) := K5.out.cell (i := 0) rfl (by rfl); go_simp) (h := ?_))
      refine kb_set K5.out 0 rfl 3 _ _ 19 (.int .i64 (IntKind.i64.wrap (x.p19 - 1))) rfl (by rfl) rfl rfl (kb_run_set K5.out (i := 0) rfl 3 19 (.int .i64 x.p19) (.int .i64 (IntKind.i64.wrap (x.p19 - 1))) (by rfl) (fun W h1 h2 => by go_simp)) (poA { x with p19 := (IntKind.i64.wrap (x.p19 - 1)) }) (by kernel_rfl) (py (h := ?_))
      intro w6 K6
      refine wpList_nil ?_
      go_upto_region 5 with fail
      refine lz (wz3 (pT b4 19) (iV x.p19) (.bool false) (h2 := by have q : w6.cell? ⟨b4, 19, none⟩ = some (iV x.p19) := K6.out.cell (i := 3) rfl (by rfl); go_simp) (h3 := by have q := HL.out; go_simp) (h := nz ?_))
      go_upto_region 7 with fail
      refine lz (wz2 (pT b1 11) (iV x.p11) (h2 := by have q : w6.cell? ⟨b1, 11, none⟩ = some (iV x.p11) := K6.out.cell (i := 0) rfl (by rfl); go_simp) (h := nz ?_))
      go_upto_region 8 with fail
      refine lz (wz2 (.bool false) (.bool false) (h1 := by have q := HZ.out; go_simp) (h := nz ?_))
      go_upto_region 10 with fail
      refine lz (wz2 (.bool true) (.bool true) (h1 := by have q := HY.out; go_simp) (h := nz ?_))
      go_upto_region 11 with fail
      refine lz (wz1 (pT b1 11) (h := ?_))
      refine kb_set K6.out 0 rfl 3 _ _ 11 (.int .i64 2) rfl (by rfl) rfl rfl (kb_run_set K6.out (i := 0) rfl 3 11 (.int .i64 x.p11) (.int .i64 2) (by rfl) (fun W h1 h2 => by go_simp)) (poA { x with p11 := 2, p19 := (IntKind.i64.wrap (x.p19 - 1)) }) (by kernel_rfl) (py (h := ?_))
      intro w7 K7
      refine wz1 (pT b1 19) (h := ?_)
      refine kb_set K7.out 0 rfl 3 _ _ 19 (.int .i64 0) rfl (by rfl) rfl rfl (kb_run_set K7.out (i := 0) rfl 3 19 (.int .i64 (IntKind.i64.wrap (x.p19 - 1))) (.int .i64 0) (by rfl) (fun W h1 h2 => by go_simp)) (poA { x with p11 := 2, p19 := 0 }) (by kernel_rfl) (py (h := ?_))
      intro w8 K8
      refine wpList_nil ?_
      go_upto_region 12 with fail
      refine rk (fun (_ : Unit) => [.agg (poA { x with p11 := 2, p19 := 0 }), .agg (poA x), .agg (poA { x with p11 := 2, p19 := 0 }), .bool true, undef, .bool true]) (fun _ Lx w' => Kb w [(b1, poA { x with p11 := 2, p19 := 0 }, 73), (b2, cfA c, 31), (b3, bif Lx 4 then poA { x with p11 := 2, p19 := 0 } else nil21, 73), (b4, poA x, 73)] w') (()) [] [] [(0, fun _ => [(2, pT b1 0)]), (1, fun _ => [(6, pT b4 0)]), (2, fun _ => [(2, pT b1 0)]), (3, fun _ => [(38, .agg (poA x)), (39, .agg (poA { x with p11 := 2, p19 := 0 }))]), (4, fun _ => [(4, pT b3 0), (37, .agg (poA { x with p11 := 2, p19 := 0 }))])] [4] (K8.out.drew) (fun _ _ _ _ => trivial) (fun _ L1 L2 _ e h => by (try dsimp only at h ⊢); rw [← e 4 (by decide)]; exact h) ?_ ?_
      ·
       refine ⟨?_, ?_, ?_, ?_, ?_, trivial⟩ <;> (rintro _ Lx w' hw hL haft hdc ρ hc hf hG hs o ho; cases ho; try dsimp only [pT, iV, seen] at hw hs)
       ·
        obtain ⟨e2, _⟩ := hs
        exact sq (.agg (poA { x with p11 := 2, p19 := 0 })) (l_var 73 _ rfl _ e2 _ _ _ (Kb.at (i := 0) hw rfl) Tryd.underlying73 rfl (size50))
       ·
        obtain ⟨e6, _⟩ := hs
        exact sq (.agg (poA x)) (l_var 73 _ rfl _ e6 _ _ _ (Kb.at (i := 3) hw rfl) Tryd.underlying73 rfl (size50))
       ·
        obtain ⟨e2, _⟩ := hs
        exact sq (.agg (poA { x with p11 := 2, p19 := 0 })) (l_var 73 _ rfl _ e2 _ _ _ (Kb.at (i := 0) hw rfl) Tryd.underlying73 rfl (size50))
       ·
        exact sc (.bool true) 62 #[.agg (poA x), .agg (poA { x with p11 := 2, p19 := 0 })] (opened_is x { x with p11 := 2, p19 := 0 } true HOP.out w') (by go_simp) (fun w2 hb => ⟨(), fun _ _ => rfl, rfl, hw.next hb⟩)
       ·
        obtain ⟨e4, e37, _⟩ := hs
        exact sr 73 _ _ rfl b3 (poA { x with p11 := 2, p19 := 0 }) e4 e37 73 (bif Lx 4 then poA { x with p11 := 2, p19 := 0 } else nil21) (Kb.at (i := 2) hw rfl) (size50) (by rw [hL]; rfl) (po_all _) ⟨(), fun _ _ => rfl, rfl, cast_blk (Kb.row (i := 2) hw rfl (poA { x with p11 := 2, p19 := 0 })) (by rfl)⟩
      intro _ Lx w9 hw hall
      try dsimp only at hw
      simp only [pT, iV, List.toList_toArray, putsZ_some, putsZ_none, putsZ_nil, List.setIfInBounds_toArray, List.set_cons_zero, List.set_cons_succ]
      have hL4 := hall 4 (by decide)
      simp only [hL4, cond_true] at hw
      have K9 := Lib.hid hw
      clear hw hall hL4
      go_wp2_with fail
      refine bodyPost_ret (v := .tuple #[.agg (poA { x with p11 := 2, p19 := 0 }), .bool true]) (results_row_tmp Tryd.results38 _ _ b3 73 (poA { x with p11 := 2, p19 := 0 }) (.bool true) _ rfl rfl (K9.out.at (i := 2) rfl) Tryd.underlying73 rfl (po_info _)) rfl ?_
      exact ⟨rfl, K9.out.below⟩
     case neg =>
      have hP : stepP x c.p3 = { x with p19 := (IntKind.i64.wrap (x.p19 - 1)) } := by unfold stepP; rw [if_pos hr, if_neg hs, if_neg hl, if_neg hz, if_neg hy]
      have hO : openedB x { x with p19 := (IntKind.i64.wrap (x.p19 - 1)) } = false := by simp [openedB, hs]
      rw [hP, hO]
      have HOP := Lib.hid hO
      clear hP hO
      have HR := Lib.hid hr
      clear hr
      have HS := Lib.hid hs
      clear hs
      have HL := Lib.hid hl
      clear hl
      have HZ := Lib.hid hz
      clear hz
      have HY := Lib.hid hy
      clear hy
      have K := Lib.hid (Kb.nil w)
      go_enter Tryd.func38, Tryd.ntmps38
      go_upto_region 0 with fail
      refine wp_region_lit ?_
      refine kb_box K.out 73 (.tmp 0) (poA x) rfl rfl (by rfl) (pz (h := ?_))
      intro b1 w1 K1
      refine kb_box K1.out 31 (.tmp 1) (cfA c) rfl rfl (by rfl) (pz (h := ?_))
      intro b2 w2 K2
      refine kb_alloc K2.out 73 (nil21) rfl z50 (by rfl) (pz (h := ?_))
      intro b3 w3 K3
      refine wz1 (.bool false) (h := nz ?_)
      go_upto_region 1 with fail
      refine lz (wz6 (pT b1 10) (iV x.p10) (.bool false) (.bool false) (pT b1 11) (iV x.p11) (h2 := by have q : w3.cell? ⟨b1, 10, none⟩ = some (iV x.p10) := K3.out.cell (i := 0) rfl (by rfl); go_simp) (h3 := by have q := HR.out; go_simp) (h6 := by have q : w3.cell? ⟨b1, 11, none⟩ = some (iV x.p11) := K3.out.cell (i := 0) rfl (by rfl); go_simp) (h := wz2 (.bool false) (.bool false) (h1 := by have q := HS.out; go_simp) (h2 := by exact run_pick_no (.tmp 10) (.const (.bool true)) (.tmp 13) _ rfl rfl rfl) (h := nz ?_)))
      go_upto_region 3 with fail
      refine lz (wz1 (.agg (poA x)) (h1 := by exact kb_all K3.out 0 rfl 73 _ rfl rfl Tryd.underlying73 rfl (size50)) (h := ?_))
      refine kb_alloc K3.out 73 (nil21) rfl z50 (by rfl) (pz (h := ?_))
      intro b4 w4 K4
      refine kb_row K4.out 3 rfl 73 _ _ (poA x) rfl rfl rfl rfl (size50) (by rfl) (po_all _) (py (h := ?_))
      intro w5 K5
      refine wpList_nil ?_
      go_upto_region 4 with fail
      refine lz (wz4 (pT b1 19) (iV x.p19) (iV (IntKind.i64.wrap (x.p19 - 1))) (pT b1 19) (h2 := by have q : w5.cell? ⟨b1, 19, none⟩ = some (iV x.p19) := K5.out.cell (i := 0) rfl (by rfl); go_simp) (h := ?_))
      refine kb_set K5.out 0 rfl 3 _ _ 19 (.int .i64 (IntKind.i64.wrap (x.p19 - 1))) rfl (by rfl) rfl rfl (kb_run_set K5.out (i := 0) rfl 3 19 (.int .i64 x.p19) (.int .i64 (IntKind.i64.wrap (x.p19 - 1))) (by rfl) (fun W h1 h2 => by go_simp)) (poA { x with p19 := (IntKind.i64.wrap (x.p19 - 1)) }) (by kernel_rfl) (py (h := ?_))
      intro w6 K6
      refine wpList_nil ?_
      go_upto_region 5 with fail
      refine lz (wz3 (pT b4 19) (iV x.p19) (.bool false) (h2 := by have q : w6.cell? ⟨b4, 19, none⟩ = some (iV x.p19) := K6.out.cell (i := 3) rfl (by rfl); go_simp) (h3 := by have q := HL.out; go_simp) (h := nz ?_))
      go_upto_region 7 with fail
      refine lz (wz2 (pT b1 11) (iV x.p11) (h2 := by have q : w6.cell? ⟨b1, 11, none⟩ = some (iV x.p11) := K6.out.cell (i := 0) rfl (by rfl); go_simp) (h := nz ?_))
      go_upto_region 8 with fail
      refine lz (wz2 (.bool false) (.bool false) (h1 := by have q := HZ.out; go_simp) (h := nz ?_))
      go_upto_region 10 with fail
      refine lz (wz2 (.bool false) (.bool false) (h1 := by have q := HY.out; go_simp) (h := nz ?_))
      go_upto_region 12 with fail
      refine rk (fun (_ : Unit) => [.agg (poA { x with p19 := (IntKind.i64.wrap (x.p19 - 1)) }), .agg (poA x), .agg (poA { x with p19 := (IntKind.i64.wrap (x.p19 - 1)) }), .bool false, undef, .bool false]) (fun _ Lx w' => Kb w [(b1, poA { x with p19 := (IntKind.i64.wrap (x.p19 - 1)) }, 73), (b2, cfA c, 31), (b3, bif Lx 4 then poA { x with p19 := (IntKind.i64.wrap (x.p19 - 1)) } else nil21, 73), (b4, poA x, 73)] w') (()) [] [] [(0, fun _ => [(2, pT b1 0)]), (1, fun _ => [(6, pT b4 0)]), (2, fun _ => [(2, pT b1 0)]), (3, fun _ => [(38, .agg (poA x)), (39, .agg (poA { x with p19 := (IntKind.i64.wrap (x.p19 - 1)) }))]), (4, fun _ => [(4, pT b3 0), (37, .agg (poA { x with p19 := (IntKind.i64.wrap (x.p19 - 1)) }))])] [4] (K6.out.drew) (fun _ _ _ _ => trivial) (fun _ L1 L2 _ e h => by (try dsimp only at h ⊢); rw [← e 4 (by decide)]; exact h) ?_ ?_
      ·
       refine ⟨?_, ?_, ?_, ?_, ?_, trivial⟩ <;> (rintro _ Lx w' hw hL haft hdc ρ hc hf hG hs o ho; cases ho; try dsimp only [pT, iV, seen] at hw hs)
       ·
        obtain ⟨e2, _⟩ := hs
        exact sq (.agg (poA { x with p19 := (IntKind.i64.wrap (x.p19 - 1)) })) (l_var 73 _ rfl _ e2 _ _ _ (Kb.at (i := 0) hw rfl) Tryd.underlying73 rfl (size50))
       ·
        obtain ⟨e6, _⟩ := hs
        exact sq (.agg (poA x)) (l_var 73 _ rfl _ e6 _ _ _ (Kb.at (i := 3) hw rfl) Tryd.underlying73 rfl (size50))
       ·
        obtain ⟨e2, _⟩ := hs
        exact sq (.agg (poA { x with p19 := (IntKind.i64.wrap (x.p19 - 1)) })) (l_var 73 _ rfl _ e2 _ _ _ (Kb.at (i := 0) hw rfl) Tryd.underlying73 rfl (size50))
       ·
        exact sc (.bool false) 62 #[.agg (poA x), .agg (poA { x with p19 := (IntKind.i64.wrap (x.p19 - 1)) })] (opened_is x { x with p19 := (IntKind.i64.wrap (x.p19 - 1)) } false HOP.out w') (by go_simp) (fun w2 hb => ⟨(), fun _ _ => rfl, rfl, hw.next hb⟩)
       ·
        obtain ⟨e4, e37, _⟩ := hs
        exact sr 73 _ _ rfl b3 (poA { x with p19 := (IntKind.i64.wrap (x.p19 - 1)) }) e4 e37 73 (bif Lx 4 then poA { x with p19 := (IntKind.i64.wrap (x.p19 - 1)) } else nil21) (Kb.at (i := 2) hw rfl) (size50) (by rw [hL]; rfl) (po_all _) ⟨(), fun _ _ => rfl, rfl, cast_blk (Kb.row (i := 2) hw rfl (poA { x with p19 := (IntKind.i64.wrap (x.p19 - 1)) })) (by rfl)⟩
      intro _ Lx w7 hw hall
      try dsimp only at hw
      simp only [pT, iV, List.toList_toArray, putsZ_some, putsZ_none, putsZ_nil, List.setIfInBounds_toArray, List.set_cons_zero, List.set_cons_succ]
      have hL4 := hall 4 (by decide)
      simp only [hL4, cond_true] at hw
      have K7 := Lib.hid hw
      clear hw hall hL4
      go_wp2_with fail
      refine bodyPost_ret (v := .tuple #[.agg (poA { x with p19 := (IntKind.i64.wrap (x.p19 - 1)) }), .bool false]) (results_row_tmp Tryd.results38 _ _ b3 73 (poA { x with p19 := (IntKind.i64.wrap (x.p19 - 1)) }) (.bool false) _ rfl rfl (K7.out.at (i := 2) rfl) Tryd.underlying73 rfl (po_info _)) rfl ?_
      exact ⟨rfl, K7.out.below⟩
end
section
open Go.RowKit
attribute [local irreducible] wpQuiet wpList
set_option maxRecDepth 100000 in
set_option maxHeartbeats 8000000 in
theorem agree_any (x : Po) (w : World) : Calls Tryd.prog 46 #[poV x] w fun e w' => e = .returned (.tuple #[poV (agreeP x), .bool (openedB x (agreeP x))]) ∧ Below w.heap.size w w' := by
 by_cases hr : x.p10 = 4
 case neg =>
  have hP : agreeP x = x := by simp [agreeP, hr]
  rw [hP]
  obtain ⟨op, hO⟩ : ∃ b, b = openedB x x := ⟨_, rfl⟩
  rw [← hO]
  obtain rfl : op = false := by rw [hO]; simp [openedB]
  have HOP := Lib.hid hO.symm
  clear hP hO
  have K := Lib.hid (Kb.nil w)
  go_enter Tryd.func46, Tryd.ntmps46
  go_upto_region 0 with fail
  refine wp_region_lit ?_
  refine kb_box K.out 73 (.tmp 0) (poA x) rfl rfl (by rfl) (pz (h := ?_))
  intro b1 w1 K1
  refine kb_alloc K1.out 73 (nil21) rfl z50 (by rfl) (pz (h := ?_))
  intro b2 w2 K2
  refine wz1 (.bool false) (h := nz ?_)
  go_upto_region 1 with fail
  refine lz (wz3 (pT b1 10) (iV x.p10) (.bool true) (h2 := by have q : w2.cell? ⟨b1, 10, none⟩ = some (iV x.p10) := K2.out.cell (i := 0) rfl (by rfl); go_simp) (h3 := by have q := hr; go_simp) (h := nz ?_))
  go_upto_region 2 with fail
  refine lz (wz1 (.agg (poA x)) (h1 := by exact kb_all K2.out 0 rfl 73 _ rfl rfl Tryd.underlying73 rfl (size50)) (h := ?_))
  refine kb_row K2.out 1 rfl 73 _ _ (poA x) rfl rfl rfl rfl (size50) (by rfl) (po_all _) (py (h := ?_))
  intro w3 K3
  refine wz1 (.bool false) (h := nz ?_)
  go_wp2_with fail
  refine bodyPost_ret (v := .tuple #[.agg (poA x), .bool false]) (results_row_tmp Tryd.results46 _ _ b2 73 (poA x) (.bool false) _ rfl rfl (K3.out.at (i := 1) rfl) Tryd.underlying73 rfl (po_info _)) rfl ?_
  exact ⟨rfl, K3.out.below⟩
 case pos =>
  have hP : agreeP x = { x with p9 := true, p11 := 2, p19 := 0 } := by simp [agreeP, hr]
  rw [hP]
  obtain ⟨op, hO⟩ : ∃ b, b = openedB x { x with p9 := true, p11 := 2, p19 := 0 } := ⟨_, rfl⟩
  rw [← hO]
  have HOP := Lib.hid hO.symm
  clear hP hO
  have K := Lib.hid (Kb.nil w)
  go_enter Tryd.func46, Tryd.ntmps46
  go_upto_region 0 with fail
  refine wp_region_lit ?_
  refine kb_box K.out 73 (.tmp 0) (poA x) rfl rfl (by rfl) (pz (h := ?_))
  intro b1 w1 K1
  refine kb_alloc K1.out 73 (nil21) rfl z50 (by rfl) (pz (h := ?_))
  intro b2 w2 K2
  refine wz1 (.bool false) (h := nz ?_)
  go_upto_region 1 with fail
  refine lz (wz3 (pT b1 10) (iV x.p10) (.bool false) (h2 := by have q : w2.cell? ⟨b1, 10, none⟩ = some (iV x.p10) := K2.out.cell (i := 0) rfl (by rfl); go_simp) (h3 := by have q := hr; go_simp) (h := nz ?_))
  go_upto_region 3 with fail
  refine lz (wz1 (.agg (poA x)) (h1 := by exact kb_all K2.out 0 rfl 73 _ rfl rfl Tryd.underlying73 rfl (size50)) (h := ?_))
  refine kb_alloc K2.out 73 (nil21) rfl z50 (by rfl) (pz (h := ?_))
  intro b3 w3 K3
  refine kb_row K3.out 2 rfl 73 _ _ (poA x) rfl rfl rfl rfl (size50) (by rfl) (po_all _) (py (h := ?_))
  intro w4 K4
  refine wpList_nil ?_
  go_upto_region 4 with fail
  refine lz (wz1 (pT b1 9) (h := ?_))
  refine kb_set K4.out 0 rfl 4 _ _ 9 (.bool true) rfl (by rfl) rfl rfl (kb_run_set K4.out (i := 0) rfl 4 9 (.bool x.p9) (.bool true) (by rfl) (fun W h1 h2 => by go_simp)) (poA { x with p9 := true }) (by kernel_rfl) (py (h := ?_))
  intro w5 K5
  refine wz1 (pT b1 11) (h := ?_)
  refine kb_set K5.out 0 rfl 3 _ _ 11 (.int .i64 2) rfl (by rfl) rfl rfl (kb_run_set K5.out (i := 0) rfl 3 11 (.int .i64 x.p11) (.int .i64 2) (by rfl) (fun W h1 h2 => by go_simp)) (poA { x with p9 := true, p11 := 2 }) (by kernel_rfl) (py (h := ?_))
  intro w6 K6
  refine wz1 (pT b1 19) (h := ?_)
  refine kb_set K6.out 0 rfl 3 _ _ 19 (.int .i64 0) rfl (by rfl) rfl rfl (kb_run_set K6.out (i := 0) rfl 3 19 (.int .i64 x.p19) (.int .i64 0) (by rfl) (fun W h1 h2 => by go_simp)) (poA { x with p9 := true, p11 := 2, p19 := 0 }) (by kernel_rfl) (py (h := ?_))
  intro w7 K7
  refine wpList_nil ?_
  go_upto_region 5 with fail
  refine rk (fun (_ : Unit) => [.agg (poA { x with p9 := true, p11 := 2, p19 := 0 }), .agg (poA x), .agg (poA { x with p9 := true, p11 := 2, p19 := 0 }), .bool op, undef, .bool op]) (fun _ Lx w' => Kb w [(b1, poA { x with p9 := true, p11 := 2, p19 := 0 }, 73), (b2, bif Lx 4 then poA { x with p9 := true, p11 := 2, p19 := 0 } else nil21, 73), (b3, poA x, 73)] w') (()) [] [] [(0, fun _ => [(1, pT b1 0)]), (1, fun _ => [(4, pT b3 0)]), (2, fun _ => [(1, pT b1 0)]), (3, fun _ => [(14, .agg (poA x)), (15, .agg (poA { x with p9 := true, p11 := 2, p19 := 0 }))]), (4, fun _ => [(2, pT b2 0), (13, .agg (poA { x with p9 := true, p11 := 2, p19 := 0 }))])] [4] (K7.out.drew) (fun _ _ _ _ => trivial) (fun _ L1 L2 _ e h => by (try dsimp only at h ⊢); rw [← e 4 (by decide)]; exact h) ?_ ?_
  ·
   refine ⟨?_, ?_, ?_, ?_, ?_, trivial⟩ <;> (rintro _ Lx w' hw hL haft hdc ρ hc hf hG hs o ho; cases ho; try dsimp only [pT, iV, seen] at hw hs)
   ·
    obtain ⟨e1, _⟩ := hs
    exact sq (.agg (poA { x with p9 := true, p11 := 2, p19 := 0 })) (l_var 73 _ rfl _ e1 _ _ _ (Kb.at (i := 0) hw rfl) Tryd.underlying73 rfl (size50))
   ·
    obtain ⟨e4, _⟩ := hs
    exact sq (.agg (poA x)) (l_var 73 _ rfl _ e4 _ _ _ (Kb.at (i := 2) hw rfl) Tryd.underlying73 rfl (size50))
   ·
    obtain ⟨e1, _⟩ := hs
    exact sq (.agg (poA { x with p9 := true, p11 := 2, p19 := 0 })) (l_var 73 _ rfl _ e1 _ _ _ (Kb.at (i := 0) hw rfl) Tryd.underlying73 rfl (size50))
   ·
    exact sc (.bool op) 62 #[.agg (poA x), .agg (poA { x with p9 := true, p11 := 2, p19 := 0 })] (opened_is x { x with p9 := true, p11 := 2, p19 := 0 } op HOP.out w') (by go_simp) (fun w2 hb => ⟨(), fun _ _ => rfl, rfl, hw.next hb⟩)
   ·
    obtain ⟨e2, e13, _⟩ := hs
    exact sr 73 _ _ rfl b2 (poA { x with p9 := true, p11 := 2, p19 := 0 }) e2 e13 73 (bif Lx 4 then poA { x with p9 := true, p11 := 2, p19 := 0 } else nil21) (Kb.at (i := 1) hw rfl) (size50) (by rw [hL]; rfl) (po_all _) ⟨(), fun _ _ => rfl, rfl, cast_blk (Kb.row (i := 1) hw rfl (poA { x with p9 := true, p11 := 2, p19 := 0 })) (by rfl)⟩
  intro _ Lx w8 hw hall
  try dsimp only at hw
  simp only [pT, iV, List.toList_toArray, putsZ_some, putsZ_none, putsZ_nil, List.setIfInBounds_toArray, List.set_cons_zero, List.set_cons_succ]
  have hL4 := hall 4 (by decide)
  simp only [hL4, cond_true] at hw
  have K8 := Lib.hid hw
  clear hw hall hL4
  go_wp2_with fail
  refine bodyPost_ret (v := .tuple #[.agg (poA { x with p9 := true, p11 := 2, p19 := 0 }), .bool op]) (results_row_tmp Tryd.results46 _ _ b2 73 (poA { x with p9 := true, p11 := 2, p19 := 0 }) (.bool op) _ rfl rfl (K8.out.at (i := 1) rfl) Tryd.underlying73 rfl (po_info _)) rfl ?_
  exact ⟨rfl, K8.out.below⟩
set_option maxRecDepth 100000 in
set_option maxHeartbeats 8000000 in
theorem block_any (x : Po) (c : Cf) (w : World) : Calls Tryd.prog 48 #[poV x, cfV c] w fun e w' => e = .returned (poV (blockP x c.p3)) ∧ Below w.heap.size w w' := by
 by_cases hr : x.p10 = 4
 case neg =>
  have hP : blockP x c.p3 = x := by unfold blockP; rw [if_neg (fun h => hr h.1)]
  rw [hP]
  clear hP
  have HR := Lib.hid hr
  clear hr
  have K := Lib.hid (Kb.nil w)
  go_enter Tryd.func48, Tryd.ntmps48
  go_upto_region 0 with fail
  refine wp_region_lit ?_
  refine kb_box K.out 73 (.tmp 0) (poA x) rfl rfl (by rfl) (pz (h := ?_))
  intro b1 w1 K1
  refine kb_box K1.out 31 (.tmp 1) (cfA c) rfl rfl (by rfl) (pz (h := ?_))
  intro b2 w2 K2
  refine kb_alloc K2.out 73 (nil21) rfl z50 (by rfl) (pz (h := ?_))
  intro b3 w3 K3
  refine wpList_nil ?_
  go_upto_region 1 with fail
  refine lz (wz4 (pT b1 10) (iV x.p10) (.bool false) (.bool false) (h2 := by have q : w3.cell? ⟨b1, 10, none⟩ = some (iV x.p10) := K3.out.cell (i := 0) rfl (by rfl); go_simp) (h3 := by have q := HR.out; go_simp) (h := wk (h := wk (h := wk (h := wz2 (.bool false) (.bool false) (h1 := by exact run_pick_no (.tmp 8) (.tmp 11) (.const (.bool false)) _ rfl rfl rfl) (h := wk (h := wk (h := wk (h := wz2 (.bool false) (.bool false) (h1 := by exact run_pick_no (.tmp 13) (.tmp 16) (.const (.bool false)) _ rfl rfl rfl) (h := wk (h := wk (h := wk (h := wz1 (.bool false) (h1 := by exact run_pick_no (.tmp 18) (.tmp 21) (.const (.bool false)) _ rfl rfl rfl) (h := nz ?_))))))))))))))
  go_upto_region 3 with fail
  refine lz (wz1 (.agg (poA x)) (h1 := by exact kb_all K3.out 0 rfl 73 _ rfl rfl Tryd.underlying73 rfl (size50)) (h := ?_))
  refine kb_row K3.out 2 rfl 73 _ _ (poA x) rfl rfl rfl rfl (size50) (by rfl) (po_all _) (py (h := ?_))
  intro w4 K4
  refine wpList_nil ?_
  go_wp2_with fail
  refine bodyPost_ret (v := .agg (poA x)) (results_cell_row Tryd.results48 _ _ b3 73 (poA x) (0, 0) _ rfl (K4.out.at (i := 2) rfl) Tryd.underlying73 rfl (po_info _)) rfl ?_
  exact ⟨rfl, K4.out.below⟩
 case pos =>
  cases hed : edgeB x
  case true =>
   have hP : blockP x c.p3 = x := by unfold blockP; rw [if_neg (fun h => by rw [hed] at h; exact Bool.noConfusion h.2.1)]
   rw [hP]
   clear hP
   have HR := Lib.hid hr
   clear hr
   have HED := Lib.hid (show edgeB x = true from hed)
   clear hed
   have K := Lib.hid (Kb.nil w)
   go_enter Tryd.func48, Tryd.ntmps48
   go_upto_region 0 with fail
   refine wp_region_lit ?_
   refine kb_box K.out 73 (.tmp 0) (poA x) rfl rfl (by rfl) (pz (h := ?_))
   intro b1 w1 K1
   refine kb_box K1.out 31 (.tmp 1) (cfA c) rfl rfl (by rfl) (pz (h := ?_))
   intro b2 w2 K2
   refine kb_alloc K2.out 73 (nil21) rfl z50 (by rfl) (pz (h := ?_))
   intro b3 w3 K3
   refine wpList_nil ?_
   go_upto_region 1 with fail
   refine lz (wz5 (pT b1 10) (iV x.p10) (.bool true) (.bool true) (.agg (poA x)) (h2 := by have q : w3.cell? ⟨b1, 10, none⟩ = some (iV x.p10) := K3.out.cell (i := 0) rfl (by rfl); go_simp) (h3 := by have q := HR.out; go_simp) (h5 := by exact kb_all K3.out 0 rfl 73 _ rfl rfl Tryd.underlying73 rfl (size50)) (h := ?_))
   refine kb_call K3.out 67 #[.agg (poA x)] (.bool true) (by rfl) (by go_simp) (edge_is x true HED.out w3) (py (h := ?_))
   intro w4 K4
   refine wz3 (.bool false) (.bool false) (.bool false) (h2 := by exact run_pick_yes (.tmp 8) (.tmp 11) (.const (.bool false)) _ rfl rfl rfl) (h := wk (h := wk (h := wk (h := wz2 (.bool false) (.bool false) (h1 := by exact run_pick_no (.tmp 13) (.tmp 16) (.const (.bool false)) _ rfl rfl rfl) (h := wk (h := wk (h := wk (h := wz1 (.bool false) (h1 := by exact run_pick_no (.tmp 18) (.tmp 21) (.const (.bool false)) _ rfl rfl rfl) (h := nz ?_)))))))))
   go_upto_region 3 with fail
   refine lz (wz1 (.agg (poA x)) (h1 := by exact kb_all K4.out 0 rfl 73 _ rfl rfl Tryd.underlying73 rfl (size50)) (h := ?_))
   refine kb_row K4.out 2 rfl 73 _ _ (poA x) rfl rfl rfl rfl (size50) (by rfl) (po_all _) (py (h := ?_))
   intro w5 K5
   refine wpList_nil ?_
   go_wp2_with fail
   refine bodyPost_ret (v := .agg (poA x)) (results_cell_row Tryd.results48 _ _ b3 73 (poA x) (0, 0) _ rfl (K5.out.at (i := 2) rfl) Tryd.underlying73 rfl (po_info _)) rfl ?_
   exact ⟨rfl, K5.out.below⟩
  case false =>
   cases ha : x.p9
   case true =>
    have hP : blockP x c.p3 = { x with p9 := true } := by unfold blockP; rw [if_neg (fun h => by rw [ha] at h; exact Bool.noConfusion h.2.2.1)]; rw [← ha]
    rw [hP]
    clear hP
    have HR := Lib.hid hr
    clear hr
    have HED := Lib.hid (show edgeB { x with p9 := true } = false from hed)
    clear hed
    rw [show poV x = .agg (poA { x with p9 := true }) from by rw [← ha]]
    clear ha
    have K := Lib.hid (Kb.nil w)
    go_enter Tryd.func48, Tryd.ntmps48
    go_upto_region 0 with fail
    refine wp_region_lit ?_
    refine kb_box K.out 73 (.tmp 0) (poA { x with p9 := true }) rfl rfl (by rfl) (pz (h := ?_))
    intro b1 w1 K1
    refine kb_box K1.out 31 (.tmp 1) (cfA c) rfl rfl (by rfl) (pz (h := ?_))
    intro b2 w2 K2
    refine kb_alloc K2.out 73 (nil21) rfl z50 (by rfl) (pz (h := ?_))
    intro b3 w3 K3
    refine wpList_nil ?_
    go_upto_region 1 with fail
    refine lz (wz5 (pT b1 10) (iV x.p10) (.bool true) (.bool true) (.agg (poA { x with p9 := true })) (h2 := by have q : w3.cell? ⟨b1, 10, none⟩ = some (iV x.p10) := K3.out.cell (i := 0) rfl (by rfl); go_simp) (h3 := by have q := HR.out; go_simp) (h5 := by exact kb_all K3.out 0 rfl 73 _ rfl rfl Tryd.underlying73 rfl (size50)) (h := ?_))
    refine kb_call K3.out 67 #[.agg (poA { x with p9 := true })] (.bool false) (by rfl) (by go_simp) (edge_is { x with p9 := true } false HED.out w3) (py (h := ?_))
    intro w4 K4
    refine wz6 (.bool true) (.bool true) (.bool true) (pT b1 9) (.bool true) (.bool false) (h2 := by exact run_pick_yes (.tmp 8) (.tmp 11) (.const (.bool false)) _ rfl rfl rfl) (h5 := by have q : w4.cell? ⟨b1, 9, none⟩ = some (.bool true) := K4.out.cell (i := 0) rfl (by rfl); go_simp) (h := wz2 (.bool false) (.bool false) (h1 := by exact run_pick_yes (.tmp 13) (.tmp 16) (.const (.bool false)) _ rfl rfl rfl) (h := wk (h := wk (h := wk (h := wz1 (.bool false) (h1 := by exact run_pick_no (.tmp 18) (.tmp 21) (.const (.bool false)) _ rfl rfl rfl) (h := nz ?_))))))
    go_upto_region 3 with fail
    refine lz (wz1 (.agg (poA { x with p9 := true })) (h1 := by exact kb_all K4.out 0 rfl 73 _ rfl rfl Tryd.underlying73 rfl (size50)) (h := ?_))
    refine kb_row K4.out 2 rfl 73 _ _ (poA { x with p9 := true }) rfl rfl rfl rfl (size50) (by rfl) (po_all _) (py (h := ?_))
    intro w5 K5
    refine wpList_nil ?_
    go_wp2_with fail
    refine bodyPost_ret (v := .agg (poA { x with p9 := true })) (results_cell_row Tryd.results48 _ _ b3 73 (poA { x with p9 := true }) (0, 0) _ rfl (K5.out.at (i := 2) rfl) Tryd.underlying73 rfl (po_info _)) rfl ?_
    exact ⟨rfl, K5.out.below⟩
   case false =>
    by_cases hs : x.p11 = 0
    case pos =>
     have hP : blockP x c.p3 = { x with p9 := false } := by unfold blockP; rw [if_neg (fun h => h.2.2.2 hs)]; rw [← ha]
     rw [hP]
     clear hP
     have HR := Lib.hid hr
     clear hr
     have HS := Lib.hid hs
     clear hs
     have HED := Lib.hid (show edgeB { x with p9 := false } = false from hed)
     clear hed
     rw [show poV x = .agg (poA { x with p9 := false }) from by rw [← ha]]
     clear ha
     have K := Lib.hid (Kb.nil w)
     go_enter Tryd.func48, Tryd.ntmps48
     go_upto_region 0 with fail
     refine wp_region_lit ?_
     refine kb_box K.out 73 (.tmp 0) (poA { x with p9 := false }) rfl rfl (by rfl) (pz (h := ?_))
     intro b1 w1 K1
     refine kb_box K1.out 31 (.tmp 1) (cfA c) rfl rfl (by rfl) (pz (h := ?_))
     intro b2 w2 K2
     refine kb_alloc K2.out 73 (nil21) rfl z50 (by rfl) (pz (h := ?_))
     intro b3 w3 K3
     refine wpList_nil ?_
     go_upto_region 1 with fail
     refine lz (wz5 (pT b1 10) (iV x.p10) (.bool true) (.bool true) (.agg (poA { x with p9 := false })) (h2 := by have q : w3.cell? ⟨b1, 10, none⟩ = some (iV x.p10) := K3.out.cell (i := 0) rfl (by rfl); go_simp) (h3 := by have q := HR.out; go_simp) (h5 := by exact kb_all K3.out 0 rfl 73 _ rfl rfl Tryd.underlying73 rfl (size50)) (h := ?_))
     refine kb_call K3.out 67 #[.agg (poA { x with p9 := false })] (.bool false) (by rfl) (by go_simp) (edge_is { x with p9 := false } false HED.out w3) (py (h := ?_))
     intro w4 K4
     refine wz6 (.bool true) (.bool true) (.bool true) (pT b1 9) (.bool false) (.bool true) (h2 := by exact run_pick_yes (.tmp 8) (.tmp 11) (.const (.bool false)) _ rfl rfl rfl) (h5 := by have q : w4.cell? ⟨b1, 9, none⟩ = some (.bool false) := K4.out.cell (i := 0) rfl (by rfl); go_simp) (h := wz6 (.bool true) (.bool true) (pT b1 11) (iV x.p11) (.bool false) (.bool false) (h1 := by exact run_pick_yes (.tmp 13) (.tmp 16) (.const (.bool false)) _ rfl rfl rfl) (h4 := by have q : w4.cell? ⟨b1, 11, none⟩ = some (iV x.p11) := K4.out.cell (i := 0) rfl (by rfl); go_simp) (h5 := by have q := HS.out; go_simp) (h6 := by exact run_pick_yes (.tmp 18) (.tmp 21) (.const (.bool false)) _ rfl rfl rfl) (h := nz ?_))
     go_upto_region 3 with fail
     refine lz (wz1 (.agg (poA { x with p9 := false })) (h1 := by exact kb_all K4.out 0 rfl 73 _ rfl rfl Tryd.underlying73 rfl (size50)) (h := ?_))
     refine kb_row K4.out 2 rfl 73 _ _ (poA { x with p9 := false }) rfl rfl rfl rfl (size50) (by rfl) (po_all _) (py (h := ?_))
     intro w5 K5
     refine wpList_nil ?_
     go_wp2_with fail
     refine bodyPost_ret (v := .agg (poA { x with p9 := false })) (results_cell_row Tryd.results48 _ _ b3 73 (poA { x with p9 := false }) (0, 0) _ rfl (K5.out.at (i := 2) rfl) Tryd.underlying73 rfl (po_info _)) rfl ?_
     exact ⟨rfl, K5.out.below⟩
    case neg =>
     have hP : blockP x c.p3 = { x with p9 := false, p11 := 0, p19 := c.p3 } := by unfold blockP; rw [if_pos ⟨hr, hed, ha, hs⟩]; rw [← ha]
     rw [hP]
     clear hP
     have HR := Lib.hid hr
     clear hr
     have HS := Lib.hid hs
     clear hs
     have HED := Lib.hid (show edgeB { x with p9 := false } = false from hed)
     clear hed
     rw [show poV x = .agg (poA { x with p9 := false }) from by rw [← ha]]
     clear ha
     have K := Lib.hid (Kb.nil w)
     go_enter Tryd.func48, Tryd.ntmps48
     go_upto_region 0 with fail
     refine wp_region_lit ?_
     refine kb_box K.out 73 (.tmp 0) (poA { x with p9 := false }) rfl rfl (by rfl) (pz (h := ?_))
     intro b1 w1 K1
     refine kb_box K1.out 31 (.tmp 1) (cfA c) rfl rfl (by rfl) (pz (h := ?_))
     intro b2 w2 K2
     refine kb_alloc K2.out 73 (nil21) rfl z50 (by rfl) (pz (h := ?_))
     intro b3 w3 K3
     refine wpList_nil ?_
     go_upto_region 1 with fail
     refine lz (wz5 (pT b1 10) (iV x.p10) (.bool true) (.bool true) (.agg (poA { x with p9 := false })) (h2 := by have q : w3.cell? ⟨b1, 10, none⟩ = some (iV x.p10) := K3.out.cell (i := 0) rfl (by rfl); go_simp) (h3 := by have q := HR.out; go_simp) (h5 := by exact kb_all K3.out 0 rfl 73 _ rfl rfl Tryd.underlying73 rfl (size50)) (h := ?_))
     refine kb_call K3.out 67 #[.agg (poA { x with p9 := false })] (.bool false) (by rfl) (by go_simp) (edge_is { x with p9 := false } false HED.out w3) (py (h := ?_))
     intro w4 K4
     refine wz6 (.bool true) (.bool true) (.bool true) (pT b1 9) (.bool false) (.bool true) (h2 := by exact run_pick_yes (.tmp 8) (.tmp 11) (.const (.bool false)) _ rfl rfl rfl) (h5 := by have q : w4.cell? ⟨b1, 9, none⟩ = some (.bool false) := K4.out.cell (i := 0) rfl (by rfl); go_simp) (h := wz6 (.bool true) (.bool true) (pT b1 11) (iV x.p11) (.bool true) (.bool true) (h1 := by exact run_pick_yes (.tmp 13) (.tmp 16) (.const (.bool false)) _ rfl rfl rfl) (h4 := by have q : w4.cell? ⟨b1, 11, none⟩ = some (iV x.p11) := K4.out.cell (i := 0) rfl (by rfl); go_simp) (h5 := by have q := HS.out; go_simp) (h6 := by exact run_pick_yes (.tmp 18) (.tmp 21) (.const (.bool false)) _ rfl rfl rfl) (h := nz ?_))
     go_upto_region 2 with fail
     refine rk (fun (_ : Unit) => [pT b2 3, iV c.p3, pT b1 11, undef, pT b1 19, undef]) (fun _ Lx w' => Kb w [(b1, poA { x with p9 := false, p11 := (bif Lx 3 then 0 else x.p11), p19 := (bif Lx 5 then c.p3 else x.p19) }, 73), (b2, cfA c, 31), (b3, nil21, 73)] w') (()) [] [(1, fun _ => ⟨b2, 3, none⟩)] [(3, fun _ => [(25, pT b1 11)]), (5, fun _ => [(24, iV c.p3), (26, pT b1 19)])] [3, 5] (K4.out.drew) (fun _ Lx w' hw => ⟨fun _ => Kb.cell (i := 1) hw rfl (by rfl), trivial⟩) (fun _ L1 L2 _ e h => by (try dsimp only at h ⊢); rw [← e 3 (by decide), ← e 5 (by decide)]; exact h) ?_ ?_
     ·
      refine ⟨?_, ?_, trivial⟩ <;> (rintro _ Lx w' hw hL haft hdc ρ hc hf hG hs o ho; cases ho; try dsimp only [pT, iV, seen] at hw hs)
      ·
       obtain ⟨e25, _⟩ := hs
       exact ss 3 _ _ rfl ⟨b1, 11, none⟩ (iV 0) e25 (hc _) (kb_run_set hw (i := 0) rfl 3 11 (iV (bif Lx 3 then 0 else x.p11)) (iV 0) (by rfl) (fun W h1 h2 => by go_simp)) ⟨(), fun _ _ => rfl, rfl, cast_blk (Kb.set (i := 0) hw rfl 11 (iV 0)) (by rfl)⟩
      ·
       obtain ⟨e24, e26, _⟩ := hs
       exact ss 3 _ _ rfl ⟨b1, 19, none⟩ (iV c.p3) e26 e24 (kb_run_set hw (i := 0) rfl 3 19 (iV (bif Lx 5 then c.p3 else x.p19)) (iV c.p3) (by rfl) (fun W h1 h2 => by go_simp)) ⟨(), fun _ _ => rfl, rfl, cast_blk (Kb.set (i := 0) hw rfl 19 (iV c.p3)) (by rfl)⟩
     intro _ Lx w5 hw hall
     try dsimp only at hw
     simp only [pT, iV, List.toList_toArray, putsZ_some, putsZ_none, putsZ_nil, List.setIfInBounds_toArray, List.set_cons_zero, List.set_cons_succ]
     have hL3 := hall 3 (by decide)
     have hL5 := hall 5 (by decide)
     simp only [hL3, hL5, cond_true] at hw
     have K5 := Lib.hid hw
     clear hw hall hL3 hL5
     go_upto_region 3 with fail
     refine lz (wz1 (.agg (poA { x with p9 := false, p11 := 0, p19 := c.p3 })) (h1 := by exact kb_all K5.out 0 rfl 73 _ rfl rfl Tryd.underlying73 rfl (size50)) (h := ?_))
     refine kb_row K5.out 2 rfl 73 _ _ (poA { x with p9 := false, p11 := 0, p19 := c.p3 }) rfl rfl rfl rfl (size50) (by rfl) (po_all _) (py (h := ?_))
     intro w6 K6
     refine wpList_nil ?_
     go_wp2_with fail
     refine bodyPost_ret (v := .agg (poA { x with p9 := false, p11 := 0, p19 := c.p3 })) (results_cell_row Tryd.results48 _ _ b3 73 (poA { x with p9 := false, p11 := 0, p19 := c.p3 }) (0, 0) _ rfl (K6.out.at (i := 2) rfl) Tryd.underlying73 rfl (po_info _)) rfl ?_
     exact ⟨rfl, K6.out.below⟩
end
section
open Go.RowKit
abbrev nil16 : Array Value := #[.int .u8 0, .bool false, .bool false, .bool false, .bool false, .bool false, .bool false, .int .u8 0, .int .u64 0, .int .u32 0, .int .u64 0, .int .u16 0, .int .u16 0, .int .u16 0, .int .u16 0, .int .u16 0]
theorem zPd : ∀ W : World, (zeroValue 61).run Tryd.prog W = .ok (.agg nil16) W := fun W => Tryd.zeroValue61 W
theorem ta_pset {P : Program} {ops : Array Oper} {Q : Exit → Act → World → Prop} {a : Act} {w w0 : World} {c : Cs} {F : Nat → Prop} {rest : List Oper} {o : Oper} {l : List (Nat × Array Value × TypeId)} {t : TS} {g k : Nat} {x : Po} (K : Ta ⟨w0, c, F⟩ l t w) (hg : c.a = some ⟨g, 0, none⟩) (hx : t.s.po[k]? = some x)
 (ty : TypeId) (px py : Operand) (j : Nat) (u v : Value) (x' : Po) (ho : o.op = .store ty px py) (hw : Region.wanted o (yielded ops a.tmps) = true) (hpx : a.eval px = .pointer (some ⟨g, k * 21 + j, none⟩)) (hpy : a.eval py = v) (hj : j < 21) (hu : (poC x)[j]? = some u)
 (hrun : ∀ W : World, W.cell? ⟨g, k * 21 + j, none⟩ = some u → W.frozen? ⟨g, k * 21 + j, none⟩ = false → (Instr.storeAt ty (.pointer (some ⟨g, k * 21 + j, none⟩)) v).run P W = .ok () (W.setCell ⟨g, k * 21 + j, none⟩ v)) (he : poC x' = (poC x).set j v)
 (h : ∀ w', Ta ⟨w0, c, F⟩ l (t.setPo (t.s.po.set k x')) w' → wpList P ops Q rest (a.put o.dst undef) w') : wpList P ops Q (o :: rest) a w :=
 BigFrame.wpList_want hw fun K' hK => wp_store_cell ty px py ho ⟨g, k * 21 + j, none⟩ v hpx hpy (hrun w (K.pcell hg hx j hu) (K.pfree hg _)) (hK _ _ (h _ (K.pset hg hx hj he)))
theorem ta_cast {R : Tr} {l l' : List (Nat × Array Value × TypeId)} {t : TS} {w : World} (h : Ta R l t w) (e : l = l') : Ta R l' t w := e ▸ h
theorem ta_add {R : Tr} {l : List (Nat × Array Value × TypeId)} {t : TS} {w : World} {b : Nat} {cs : Array Value} {ty : TypeId} {B : Nat} (h : Ta R l t w) (hk : Blk w b cs ty) (hn : ∀ x ∈ l, x.1 ≠ b) (hft : ∀ tv fv, Tact w R.c tv fv t → ¬ foot R.c tv fv b) (hB : R.w0.heap.size ≤ b) : Ta R (l ++ [(b, cs, ty)]) t w := by
 obtain ⟨tv, fv, h1, h2, h3⟩ := h.act
 refine ⟨fun x hx => ?_, fun x hx => ?_, ?_, h.fr, ⟨tv, fv, h1, fun x hx => ?_, h3⟩, h.g0⟩
 ·
  rcases List.mem_append.1 hx with hx | hx
  ·
   exact h.all x hx
  ·
   rw [List.mem_singleton.1 hx]; exact hk
 ·
  rcases List.mem_append.1 hx with hx | hx
  ·
   exact h.new x hx
  ·
   rw [List.mem_singleton.1 hx]; exact hB
 ·
  rw [List.map_append, List.nodup_append]
  refine ⟨h.nd, by simp, fun x hx y hy => ?_⟩
  obtain ⟨z, hz, rfl⟩ := List.mem_map.1 hx
  simp at hy
  subst hy
  exact hn z hz
 ·
  rcases List.mem_append.1 hx with hx | hx
  ·
   exact h2 x hx
  ·
   rw [List.mem_singleton.1 hx]; exact hft tv fv h1
theorem wpList_made {P : Program} {ops : Array Oper} {Q : Exit → Act → World → Prop} {a : Act} {w w' : World} {rest : List Oper} {o : Oper} (v : Value) (hw : Region.wanted o (yielded ops a.tmps) = true)
 (hrun : (execOp a.eval o).run P w = .ok (.value v) w') (h : wpList P ops Q rest (a.put o.dst v) w') : wpList P ops Q (o :: rest) a w :=
 BigFrame.wpList_want hw fun K hK => by unfold Oper.wp; simp only [hrun]; exact hK _ _ h
theorem ApW.start0 {α : Type} {e : TypeId} {size B : Nat} {enc : α → List Value} {w1 : World} {cur vS vR : Value} {l : List α} {x : α} (h : Own w1 B e size enc cur l) (hB : B ≤ w1.heap.size) : ApW w1 B e size enc cur l x false false vS vR w1 :=
 ⟨World.grownBy.refl w1 _, fun _ => h, (fun q => Bool.noConfusion q), (fun q => Bool.noConfusion q), (fun q => Bool.noConfusion q), (fun q => Bool.noConfusion q), hB⟩
theorem ta_flush {P : Program} {ops : Array Oper} {Q : Exit → Act → World → Prop} {a : Act} {w w0 w1 : World} {c : Cs} {F : Nat → Prop} {rest : List Oper} {o : Oper} {l : List (Nat × Array Value × TypeId)} {t : TS} {tv fv vS vR : Value} {x : Int} (K : Ta ⟨w0, c, F⟩ l t w1)
 (h1 : Tact w1 c tv fv t) (h2 : ∀ x ∈ l, ¬ foot c tv fv x.1) (h3 : ∀ k, foot c tv fv k → F k ∨ w0.heap.size ≤ k) (hp : ApW w1 0 3 1 inC fv t.fl x true true vS vR w)
 (ty : TypeId) (px py : Operand) (ho : o.op = .store ty px py) (hw : Region.wanted o (yielded ops a.tmps) = true) (hpx : a.eval px = .pointer (some ⟨c.b, 26, none⟩)) (hpy : a.eval py = vR)
 (hrun : ∀ W : World, W.cell? ⟨c.b, 26, none⟩ = some fv → W.frozen? ⟨c.b, 26, none⟩ = false → (Instr.storeAt ty (.pointer (some ⟨c.b, 26, none⟩)) vR).run P W = .ok () (W.setCell ⟨c.b, 26, none⟩ vR))
 (h : ∀ w', Ta ⟨w0, c, F⟩ l (t.flush x) w' → wpList P ops Q rest (a.put o.dst undef) w') : wpList P ops Q (o :: rest) a w := by
 have kb : Blk w c.b (actA t c.v1 c.v2 c.v3 c.v4 tv fv) c.T := h1.blk.fr (Mv.grown hp.g) h1.bf
 exact BigFrame.wpList_want hw fun K' hK => wp_store_cell ty px py ho ⟨c.b, 26, none⟩ vR hpx hpy (hrun w (kb.cell 26) (kb.free 26)) (hK _ _ (h _ (K.flush h1 h2 h3 hp)))
section
variable {w w' w0 : World} {c : Cs} {tv fv : Value} {t : TS} {R : Tr} {l r : List (Nat × Array Value × TypeId)}
theorem Tact.below (h : Tact w c tv fv t) (hb : Below w.heap.size w w') : Tact w' c tv fv t := h.fr (F := fun _ => False) (Mv.of_below hb) (fun _ _ e => e) (fun e => e)
theorem Tact.acell (h : Tact w c tv fv t) (j : Nat) {v : Value} (e : (stL t.s c.v1 c.v2 c.v3 c.v4)[j]? = some v) : w.cell? ⟨c.b, j, none⟩ = some v := h.cell j v e
theorem Tact.prange (h : Tact w c tv fv t) {g k : Nat} {x : Po} (hg : c.a = some ⟨g, 0, none⟩) (hx : t.s.po[k]? = some x) : w.rangeAt g (k * 21) (poA x).toList := fun j v hv => h.pcell hg hx hv
theorem Tact.conf (h : Tact w c tv fv t) : ∃ cs ty, Blk w c.b cs ty ∧ ∀ k v, (cfC t.s.cf)[k]? = some v → cs[0 + k]? = some v := by
 refine ⟨_, _, h.blk, fun k v hv => act_low t _ _ _ _ tv fv (0 + k) v ?_⟩
 have := st_cf t.s c.v1 c.v2 c.v3 c.v4 k v hv
 unfold stA at this
 rwa [List.getElem?_toArray] at this
theorem Kb.left (K : Kb w0 (l ++ r) w) : Kb w0 l w :=
 ⟨fun x hx => K.all x (List.mem_append_left _ hx), K.below, fun x hx => K.new x (List.mem_append_left _ hx), by have := K.nd; rw [List.map_append, List.nodup_append] at this; exact this.1⟩
theorem Ta.left (K : Ta R (l ++ r) t w) : Ta R l t w := by
 obtain ⟨tv, fv, h1, h2, h3⟩ := K.act
 exact ⟨fun x hx => K.all x (List.mem_append_left _ hx), fun x hx => K.new x (List.mem_append_left _ hx), by have := K.nd; rw [List.map_append, List.nodup_append] at this; exact this.1, K.fr, ⟨tv, fv, h1, fun x hx => h2 x (List.mem_append_left _ hx), h3⟩, K.g0⟩
theorem Tact.ready (h : Tact w c tv fv t) : ∀ W, Below w.heap.size w W → Tact W c tv fv t := fun W hb => h.below hb
end
end
end Go.Proofs.YteeinlbhcdpnnaaDoor
