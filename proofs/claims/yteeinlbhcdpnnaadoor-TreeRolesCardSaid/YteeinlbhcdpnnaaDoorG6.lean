import Derived.Test.YteeinlbhcdpnnaaDoorG4
import Derived.Test.YteeinlbhcdpnnaaDoorG2
import Derived.Test.YteeinlbhcdpnnaaDoorG5
set_option linter.unusedSimpArgs false
set_option linter.unusedVariables false
namespace Go.Proofs.YteeinlbhcdpnnaaDoor
section
open Go.RowKit
attribute [local irreducible] wpQuiet wpList
set_option maxRecDepth 100000 in
set_option maxHeartbeats 8000000 in
theorem designate_any (x : Po) (u v : Vc) (c : Cf) (w : World) : Calls Tryd.prog 73 #[poV (poU x u), vcV v, cfV c] w fun e w' => e = .returned (.tuple #[poV (desP x u v c.p3), .bool (desB x u v)]) ∧ Below w.heap.size w w' := by
 have CE := Lib.hid (fun w => equal_vc u v w)
 by_cases hr : x.p10 = 4
 case neg =>
  cases hed : edgeB x
  case false =>
   have hB : desB x u v = true := by simp [desB, hr]
   have hP : desP x u v c.p3 = ⟨x.p0, x.p1, x.p2, x.p3, x.p4, x.p5, x.p6, x.p7, x.p8, false, 4, 0, 1, (v.r : Nat), (v.c : Nat), (v.b : Nat), (v.p : Nat), 0, 0, c.p3, x.p20⟩ := by simp [desP, desV, hB, hed, hr]
   rw [hP, hB]
   unfold poU
   have HED := Lib.hid hed
   clear hP hB hed
   have K := Lib.hid (Kb.nil w)
   go_enter Tryd.func73, Tryd.ntmps73
   go_upto_region 0 with fail
   refine wp_region_lit ?_
   refine kb_box K.out 73 (.tmp 0) (poA { x with p13 := (u.r : Nat), p14 := (u.c : Nat), p15 := (u.b : Nat), p16 := (u.p : Nat) }) rfl rfl (by rfl) (pz (h := ?_))
   intro b1 w1 K1
   refine kb_box K1.out 71 (.tmp 1) (vcA v) rfl rfl (by rfl) (pz (h := ?_))
   intro b2 w2 K2
   refine kb_box K2.out 31 (.tmp 2) (cfA c) rfl rfl (by rfl) (pz (h := ?_))
   intro b3 w3 K3
   refine kb_alloc K3.out 73 (nil21) rfl z50 (by rfl) (pz (h := ?_))
   intro b4 w4 K4
   refine wz1 (.bool false) (h := nz ?_)
   go_upto_region 1 with fail
   refine lz (wz4 (pT b1 10) (iV x.p10) (.bool true) (.bool true) (h2 := by have q : w4.cell? ⟨b1, 10, none⟩ = some (iV x.p10) := K4.out.cell (i := 0) rfl (by rfl); go_simp) (h3 := by have q := hr; go_simp) (h := nz ?_))
   go_upto_region 2 with fail
   refine lz (wz2 (.bool true) (.bool true) (h := wk (h := wk (h := wk (h := wz2 (.bool true) (.bool true) (h1 := by exact run_pick_yes (.tmp 14) (.const (.bool true)) (.tmp 17) _ rfl rfl rfl) (h := wk (h := wk (h := wk (h := wk (h := wz2 (.bool true) (.bool true) (h1 := by exact run_pick_yes (.tmp 19) (.const (.bool true)) (.tmp 23) _ rfl rfl rfl) (h := nz ?_)))))))))))
   go_upto_region 3 with fail
   refine lz (wz1 (pT b1 10) (h := ?_))
   refine kb_set K4.out 0 rfl 3 _ _ 10 (.int .i64 4) rfl (by rfl) rfl rfl (kb_run_set K4.out (i := 0) rfl 3 10 (.int .i64 x.p10) (.int .i64 4) (by rfl) (fun W h1 h2 => by go_simp)) (poA { x with p10 := 4, p13 := (u.r : Nat), p14 := (u.c : Nat), p15 := (u.b : Nat), p16 := (u.p : Nat) }) (by kernel_rfl) (py (h := ?_))
   intro w5 K5
   refine wpList_nil ?_
   go_upto_region 4 with fail
   refine lz (wz1 (.bool true) (h := nz ?_))
   go_upto_region 5 with fail
   refine rk (fun (_ : Unit) => [.agg (vcA v), pT b1 12, undef, pT b1 13, undef, pT b1 17, undef, pT b1 18, undef, pT b1 9, undef]) (fun _ Lx w' => Kb w [(b1, poA { x with p9 := (bif Lx 10 then false else x.p9), p10 := 4, p12 := (bif Lx 2 then 1 else x.p12), p13 := (bif Lx 4 then (v.r : Nat) else (u.r : Nat)), p14 := (bif Lx 4 then (v.c : Nat) else (u.c : Nat)), p15 := (bif Lx 4 then (v.b : Nat) else (u.b : Nat)), p16 := (bif Lx 4 then (v.p : Nat) else (u.p : Nat)), p17 := (bif Lx 6 then 0 else x.p17), p18 := (bif Lx 8 then 0 else x.p18) }, 73), (b2, vcA v, 71), (b3, cfA c, 31), (b4, nil21, 73)] w') (()) [] [] [(0, fun _ => [(4, pT b2 0)]), (2, fun _ => [(28, pT b1 12)]), (4, fun _ => [(27, .agg (vcA v)), (29, pT b1 13)]), (6, fun _ => [(30, pT b1 17)]), (8, fun _ => [(31, pT b1 18)]), (10, fun _ => [(32, pT b1 9)])] [2, 4, 6, 8, 10] (K5.out.drew) (fun _ _ _ _ => trivial) (fun _ L1 L2 _ e h => by (try dsimp only at h ⊢); rw [← e 2 (by decide), ← e 4 (by decide), ← e 6 (by decide), ← e 8 (by decide), ← e 10 (by decide)]; exact h) ?_ ?_
   ·
    refine ⟨?_, ?_, ?_, ?_, ?_, ?_, trivial⟩ <;> (rintro _ Lx w' hw hL haft hdc ρ hc hf hG hs o ho; cases ho; try dsimp only [pT, iV, seen] at hw hs)
    ·
     obtain ⟨e4, _⟩ := hs
     exact sq (.agg (vcA v)) (l_var 71 _ rfl _ e4 _ _ _ (Kb.at (i := 1) hw rfl) Tryd.underlying71 rfl (sizeV))
    ·
     obtain ⟨e28, _⟩ := hs
     exact ss 3 _ _ rfl ⟨b1, 12, none⟩ (iV 1) e28 (hc _) (kb_run_set hw (i := 0) rfl 3 12 (iV (bif Lx 2 then 1 else x.p12)) (iV 1) (by rfl) (fun W h1 h2 => by go_simp)) ⟨(), fun _ _ => rfl, rfl, cast_blk (Kb.set (i := 0) hw rfl 12 (iV 1)) (by rfl)⟩
    ·
     obtain ⟨e27, e29, _⟩ := hs
     exact sm 71 _ _ rfl b1 13 (vcA v) e29 e27 ((Kb.at (i := 0) hw rfl).thereN 13 4 (Nat.le_of_ble_eq_true (by kernel_rfl))) (sizeV) (by kernel_rfl) ⟨(), fun _ _ => rfl, rfl, cast_blk (Kb.mid (i := 0) hw rfl 13 (vcA v).toList) (by rfl)⟩
    ·
     obtain ⟨e30, _⟩ := hs
     exact ss 3 _ _ rfl ⟨b1, 17, none⟩ (iV 0) e30 (hc _) (kb_run_set hw (i := 0) rfl 3 17 (iV (bif Lx 6 then 0 else x.p17)) (iV 0) (by rfl) (fun W h1 h2 => by go_simp)) ⟨(), fun _ _ => rfl, rfl, cast_blk (Kb.set (i := 0) hw rfl 17 (iV 0)) (by rfl)⟩
    ·
     obtain ⟨e31, _⟩ := hs
     exact ss 3 _ _ rfl ⟨b1, 18, none⟩ (iV 0) e31 (hc _) (kb_run_set hw (i := 0) rfl 3 18 (iV (bif Lx 8 then 0 else x.p18)) (iV 0) (by rfl) (fun W h1 h2 => by go_simp)) ⟨(), fun _ _ => rfl, rfl, cast_blk (Kb.set (i := 0) hw rfl 18 (iV 0)) (by rfl)⟩
    ·
     obtain ⟨e32, _⟩ := hs
     exact ss 4 _ _ rfl ⟨b1, 9, none⟩ (.bool false) e32 (hc _) (kb_run_set hw (i := 0) rfl 4 9 (.bool (bif Lx 10 then false else x.p9)) (.bool false) (by rfl) (fun W h1 h2 => by go_simp)) ⟨(), fun _ _ => rfl, rfl, cast_blk (Kb.set (i := 0) hw rfl 9 (.bool false)) (by rfl)⟩
   intro _ Lx w6 hw hall
   try dsimp only at hw
   simp only [pT, iV, List.toList_toArray, putsZ_some, putsZ_none, putsZ_nil, List.setIfInBounds_toArray, List.set_cons_zero, List.set_cons_succ]
   have hL2 := hall 2 (by decide)
   have hL4 := hall 4 (by decide)
   have hL6 := hall 6 (by decide)
   have hL8 := hall 8 (by decide)
   have hL10 := hall 10 (by decide)
   simp only [hL2, hL4, hL6, hL8, hL10, cond_true] at hw
   have K6 := Lib.hid hw
   clear hw hall hL2 hL4 hL6 hL8 hL10
   go_upto_region 6 with fail
   refine lz (wz1 (.bool true) (h := nz ?_))
   go_upto_region 7 with fail
   refine rk (fun (_ : Unit) => [pT b3 3, iV c.p3, pT b1 11, undef, pT b1 19, undef]) (fun _ Lx w' => Kb w [(b1, poA ⟨x.p0, x.p1, x.p2, x.p3, x.p4, x.p5, x.p6, x.p7, x.p8, false, 4, (bif Lx 3 then 0 else x.p11), 1, (v.r : Nat), (v.c : Nat), (v.b : Nat), (v.p : Nat), 0, 0, (bif Lx 5 then c.p3 else x.p19), x.p20⟩, 73), (b2, vcA v, 71), (b3, cfA c, 31), (b4, nil21, 73)] w') (()) [] [(1, fun _ => ⟨b3, 3, none⟩)] [(3, fun _ => [(36, pT b1 11)]), (5, fun _ => [(35, iV c.p3), (37, pT b1 19)])] [3, 5] (K6.out.drew) (fun _ Lx w' hw => ⟨fun _ => Kb.cell (i := 2) hw rfl (by rfl), trivial⟩) (fun _ L1 L2 _ e h => by (try dsimp only at h ⊢); rw [← e 3 (by decide), ← e 5 (by decide)]; exact h) ?_ ?_
   ·
    refine ⟨?_, ?_, trivial⟩ <;> (rintro _ Lx w' hw hL haft hdc ρ hc hf hG hs o ho; cases ho; try dsimp only [pT, iV, seen] at hw hs)
    ·
     obtain ⟨e36, _⟩ := hs
     exact ss 3 _ _ rfl ⟨b1, 11, none⟩ (iV 0) e36 (hc _) (kb_run_set hw (i := 0) rfl 3 11 (iV (bif Lx 3 then 0 else x.p11)) (iV 0) (by rfl) (fun W h1 h2 => by go_simp)) ⟨(), fun _ _ => rfl, rfl, cast_blk (Kb.set (i := 0) hw rfl 11 (iV 0)) (by rfl)⟩
    ·
     obtain ⟨e35, e37, _⟩ := hs
     exact ss 3 _ _ rfl ⟨b1, 19, none⟩ (iV c.p3) e37 e35 (kb_run_set hw (i := 0) rfl 3 19 (iV (bif Lx 5 then c.p3 else x.p19)) (iV c.p3) (by rfl) (fun W h1 h2 => by go_simp)) ⟨(), fun _ _ => rfl, rfl, cast_blk (Kb.set (i := 0) hw rfl 19 (iV c.p3)) (by rfl)⟩
   intro _ Lx w7 hw hall
   try dsimp only at hw
   simp only [pT, iV, List.toList_toArray, putsZ_some, putsZ_none, putsZ_nil, List.setIfInBounds_toArray, List.set_cons_zero, List.set_cons_succ]
   have hL3 := hall 3 (by decide)
   have hL5 := hall 5 (by decide)
   simp only [hL3, hL5, cond_true] at hw
   have K7 := Lib.hid hw
   clear hw hall hL3 hL5
   go_upto_region 8 with fail
   refine lz (wz1 (.agg (poA ⟨x.p0, x.p1, x.p2, x.p3, x.p4, x.p5, x.p6, x.p7, x.p8, false, 4, 0, 1, (v.r : Nat), (v.c : Nat), (v.b : Nat), (v.p : Nat), 0, 0, c.p3, x.p20⟩)) (h1 := by exact kb_all K7.out 0 rfl 73 _ rfl rfl Tryd.underlying73 rfl (size50)) (h := ?_))
   refine kb_call K7.out 67 #[.agg (poA ⟨x.p0, x.p1, x.p2, x.p3, x.p4, x.p5, x.p6, x.p7, x.p8, false, 4, 0, 1, (v.r : Nat), (v.c : Nat), (v.b : Nat), (v.p : Nat), 0, 0, c.p3, x.p20⟩)] (.bool false) (by rfl) (by go_simp) (edge_is ⟨x.p0, x.p1, x.p2, x.p3, x.p4, x.p5, x.p6, x.p7, x.p8, false, 4, 0, 1, (v.r : Nat), (v.c : Nat), (v.b : Nat), (v.p : Nat), 0, 0, c.p3, x.p20⟩ false HED.out w7) (py (h := ?_))
   intro w8 K8
   refine wpList_nil ?_
   go_upto_region 10 with fail
   refine lz (wz2 (.agg (poA ⟨x.p0, x.p1, x.p2, x.p3, x.p4, x.p5, x.p6, x.p7, x.p8, false, 4, 0, 1, (v.r : Nat), (v.c : Nat), (v.b : Nat), (v.p : Nat), 0, 0, c.p3, x.p20⟩)) (.bool true) (h1 := by exact kb_all K8.out 0 rfl 73 _ rfl rfl Tryd.underlying73 rfl (size50)) (h := ?_))
   refine kb_row K8.out 3 rfl 73 _ _ (poA ⟨x.p0, x.p1, x.p2, x.p3, x.p4, x.p5, x.p6, x.p7, x.p8, false, 4, 0, 1, (v.r : Nat), (v.c : Nat), (v.b : Nat), (v.p : Nat), 0, 0, c.p3, x.p20⟩) rfl rfl rfl rfl (size50) (by rfl) (po_all _) (py (h := ?_))
   intro w9 K9
   refine wz1 (.bool true) (h := nz ?_)
   go_wp2_with fail
   refine bodyPost_ret (v := .tuple #[.agg (poA ⟨x.p0, x.p1, x.p2, x.p3, x.p4, x.p5, x.p6, x.p7, x.p8, false, 4, 0, 1, (v.r : Nat), (v.c : Nat), (v.b : Nat), (v.p : Nat), 0, 0, c.p3, x.p20⟩), .bool true]) (results_row_tmp Tryd.results73 _ _ b4 73 (poA ⟨x.p0, x.p1, x.p2, x.p3, x.p4, x.p5, x.p6, x.p7, x.p8, false, 4, 0, 1, (v.r : Nat), (v.c : Nat), (v.b : Nat), (v.p : Nat), 0, 0, c.p3, x.p20⟩) (.bool true) _ rfl rfl (K9.out.at (i := 3) rfl) Tryd.underlying73 rfl (po_info _)) rfl ?_
   exact ⟨rfl, K9.out.below⟩
  case true =>
   have hB : desB x u v = true := by simp [desB, hr]
   have hP : desP x u v c.p3 = ⟨x.p0, x.p1, x.p2, x.p3, x.p4, x.p5, x.p6, x.p7, x.p8, false, 4, 2, 1, (v.r : Nat), (v.c : Nat), (v.b : Nat), (v.p : Nat), 0, 0, 0, x.p20⟩ := by simp [desP, desV, hB, hed, hr]
   rw [hP, hB]
   unfold poU
   have HED := Lib.hid hed
   clear hP hB hed
   have K := Lib.hid (Kb.nil w)
   go_enter Tryd.func73, Tryd.ntmps73
   go_upto_region 0 with fail
   refine wp_region_lit ?_
   refine kb_box K.out 73 (.tmp 0) (poA { x with p13 := (u.r : Nat), p14 := (u.c : Nat), p15 := (u.b : Nat), p16 := (u.p : Nat) }) rfl rfl (by rfl) (pz (h := ?_))
   intro b1 w1 K1
   refine kb_box K1.out 71 (.tmp 1) (vcA v) rfl rfl (by rfl) (pz (h := ?_))
   intro b2 w2 K2
   refine kb_box K2.out 31 (.tmp 2) (cfA c) rfl rfl (by rfl) (pz (h := ?_))
   intro b3 w3 K3
   refine kb_alloc K3.out 73 (nil21) rfl z50 (by rfl) (pz (h := ?_))
   intro b4 w4 K4
   refine wz1 (.bool false) (h := nz ?_)
   go_upto_region 1 with fail
   refine lz (wz4 (pT b1 10) (iV x.p10) (.bool true) (.bool true) (h2 := by have q : w4.cell? ⟨b1, 10, none⟩ = some (iV x.p10) := K4.out.cell (i := 0) rfl (by rfl); go_simp) (h3 := by have q := hr; go_simp) (h := nz ?_))
   go_upto_region 2 with fail
   refine lz (wz2 (.bool true) (.bool true) (h := wk (h := wk (h := wk (h := wz2 (.bool true) (.bool true) (h1 := by exact run_pick_yes (.tmp 14) (.const (.bool true)) (.tmp 17) _ rfl rfl rfl) (h := wk (h := wk (h := wk (h := wk (h := wz2 (.bool true) (.bool true) (h1 := by exact run_pick_yes (.tmp 19) (.const (.bool true)) (.tmp 23) _ rfl rfl rfl) (h := nz ?_)))))))))))
   go_upto_region 3 with fail
   refine lz (wz1 (pT b1 10) (h := ?_))
   refine kb_set K4.out 0 rfl 3 _ _ 10 (.int .i64 4) rfl (by rfl) rfl rfl (kb_run_set K4.out (i := 0) rfl 3 10 (.int .i64 x.p10) (.int .i64 4) (by rfl) (fun W h1 h2 => by go_simp)) (poA { x with p10 := 4, p13 := (u.r : Nat), p14 := (u.c : Nat), p15 := (u.b : Nat), p16 := (u.p : Nat) }) (by kernel_rfl) (py (h := ?_))
   intro w5 K5
   refine wpList_nil ?_
   go_upto_region 4 with fail
   refine lz (wz1 (.bool true) (h := nz ?_))
   go_upto_region 5 with fail
   refine rk (fun (_ : Unit) => [.agg (vcA v), pT b1 12, undef, pT b1 13, undef, pT b1 17, undef, pT b1 18, undef, pT b1 9, undef]) (fun _ Lx w' => Kb w [(b1, poA { x with p9 := (bif Lx 10 then false else x.p9), p10 := 4, p12 := (bif Lx 2 then 1 else x.p12), p13 := (bif Lx 4 then (v.r : Nat) else (u.r : Nat)), p14 := (bif Lx 4 then (v.c : Nat) else (u.c : Nat)), p15 := (bif Lx 4 then (v.b : Nat) else (u.b : Nat)), p16 := (bif Lx 4 then (v.p : Nat) else (u.p : Nat)), p17 := (bif Lx 6 then 0 else x.p17), p18 := (bif Lx 8 then 0 else x.p18) }, 73), (b2, vcA v, 71), (b3, cfA c, 31), (b4, nil21, 73)] w') (()) [] [] [(0, fun _ => [(4, pT b2 0)]), (2, fun _ => [(28, pT b1 12)]), (4, fun _ => [(27, .agg (vcA v)), (29, pT b1 13)]), (6, fun _ => [(30, pT b1 17)]), (8, fun _ => [(31, pT b1 18)]), (10, fun _ => [(32, pT b1 9)])] [2, 4, 6, 8, 10] (K5.out.drew) (fun _ _ _ _ => trivial) (fun _ L1 L2 _ e h => by (try dsimp only at h ⊢); rw [← e 2 (by decide), ← e 4 (by decide), ← e 6 (by decide), ← e 8 (by decide), ← e 10 (by decide)]; exact h) ?_ ?_
   ·
    refine ⟨?_, ?_, ?_, ?_, ?_, ?_, trivial⟩ <;> (rintro _ Lx w' hw hL haft hdc ρ hc hf hG hs o ho; cases ho; try dsimp only [pT, iV, seen] at hw hs)
    ·
     obtain ⟨e4, _⟩ := hs
     exact sq (.agg (vcA v)) (l_var 71 _ rfl _ e4 _ _ _ (Kb.at (i := 1) hw rfl) Tryd.underlying71 rfl (sizeV))
    ·
     obtain ⟨e28, _⟩ := hs
     exact ss 3 _ _ rfl ⟨b1, 12, none⟩ (iV 1) e28 (hc _) (kb_run_set hw (i := 0) rfl 3 12 (iV (bif Lx 2 then 1 else x.p12)) (iV 1) (by rfl) (fun W h1 h2 => by go_simp)) ⟨(), fun _ _ => rfl, rfl, cast_blk (Kb.set (i := 0) hw rfl 12 (iV 1)) (by rfl)⟩
    ·
     obtain ⟨e27, e29, _⟩ := hs
     exact sm 71 _ _ rfl b1 13 (vcA v) e29 e27 ((Kb.at (i := 0) hw rfl).thereN 13 4 (Nat.le_of_ble_eq_true (by kernel_rfl))) (sizeV) (by kernel_rfl) ⟨(), fun _ _ => rfl, rfl, cast_blk (Kb.mid (i := 0) hw rfl 13 (vcA v).toList) (by rfl)⟩
    ·
     obtain ⟨e30, _⟩ := hs
     exact ss 3 _ _ rfl ⟨b1, 17, none⟩ (iV 0) e30 (hc _) (kb_run_set hw (i := 0) rfl 3 17 (iV (bif Lx 6 then 0 else x.p17)) (iV 0) (by rfl) (fun W h1 h2 => by go_simp)) ⟨(), fun _ _ => rfl, rfl, cast_blk (Kb.set (i := 0) hw rfl 17 (iV 0)) (by rfl)⟩
    ·
     obtain ⟨e31, _⟩ := hs
     exact ss 3 _ _ rfl ⟨b1, 18, none⟩ (iV 0) e31 (hc _) (kb_run_set hw (i := 0) rfl 3 18 (iV (bif Lx 8 then 0 else x.p18)) (iV 0) (by rfl) (fun W h1 h2 => by go_simp)) ⟨(), fun _ _ => rfl, rfl, cast_blk (Kb.set (i := 0) hw rfl 18 (iV 0)) (by rfl)⟩
    ·
     obtain ⟨e32, _⟩ := hs
     exact ss 4 _ _ rfl ⟨b1, 9, none⟩ (.bool false) e32 (hc _) (kb_run_set hw (i := 0) rfl 4 9 (.bool (bif Lx 10 then false else x.p9)) (.bool false) (by rfl) (fun W h1 h2 => by go_simp)) ⟨(), fun _ _ => rfl, rfl, cast_blk (Kb.set (i := 0) hw rfl 9 (.bool false)) (by rfl)⟩
   intro _ Lx w6 hw hall
   try dsimp only at hw
   simp only [pT, iV, List.toList_toArray, putsZ_some, putsZ_none, putsZ_nil, List.setIfInBounds_toArray, List.set_cons_zero, List.set_cons_succ]
   have hL2 := hall 2 (by decide)
   have hL4 := hall 4 (by decide)
   have hL6 := hall 6 (by decide)
   have hL8 := hall 8 (by decide)
   have hL10 := hall 10 (by decide)
   simp only [hL2, hL4, hL6, hL8, hL10, cond_true] at hw
   have K6 := Lib.hid hw
   clear hw hall hL2 hL4 hL6 hL8 hL10
   go_upto_region 6 with fail
   refine lz (wz1 (.bool true) (h := nz ?_))
   go_upto_region 7 with fail
   refine rk (fun (_ : Unit) => [pT b3 3, iV c.p3, pT b1 11, undef, pT b1 19, undef]) (fun _ Lx w' => Kb w [(b1, poA ⟨x.p0, x.p1, x.p2, x.p3, x.p4, x.p5, x.p6, x.p7, x.p8, false, 4, (bif Lx 3 then 0 else x.p11), 1, (v.r : Nat), (v.c : Nat), (v.b : Nat), (v.p : Nat), 0, 0, (bif Lx 5 then c.p3 else x.p19), x.p20⟩, 73), (b2, vcA v, 71), (b3, cfA c, 31), (b4, nil21, 73)] w') (()) [] [(1, fun _ => ⟨b3, 3, none⟩)] [(3, fun _ => [(36, pT b1 11)]), (5, fun _ => [(35, iV c.p3), (37, pT b1 19)])] [3, 5] (K6.out.drew) (fun _ Lx w' hw => ⟨fun _ => Kb.cell (i := 2) hw rfl (by rfl), trivial⟩) (fun _ L1 L2 _ e h => by (try dsimp only at h ⊢); rw [← e 3 (by decide), ← e 5 (by decide)]; exact h) ?_ ?_
   ·
    refine ⟨?_, ?_, trivial⟩ <;> (rintro _ Lx w' hw hL haft hdc ρ hc hf hG hs o ho; cases ho; try dsimp only [pT, iV, seen] at hw hs)
    ·
     obtain ⟨e36, _⟩ := hs
     exact ss 3 _ _ rfl ⟨b1, 11, none⟩ (iV 0) e36 (hc _) (kb_run_set hw (i := 0) rfl 3 11 (iV (bif Lx 3 then 0 else x.p11)) (iV 0) (by rfl) (fun W h1 h2 => by go_simp)) ⟨(), fun _ _ => rfl, rfl, cast_blk (Kb.set (i := 0) hw rfl 11 (iV 0)) (by rfl)⟩
    ·
     obtain ⟨e35, e37, _⟩ := hs
     exact ss 3 _ _ rfl ⟨b1, 19, none⟩ (iV c.p3) e37 e35 (kb_run_set hw (i := 0) rfl 3 19 (iV (bif Lx 5 then c.p3 else x.p19)) (iV c.p3) (by rfl) (fun W h1 h2 => by go_simp)) ⟨(), fun _ _ => rfl, rfl, cast_blk (Kb.set (i := 0) hw rfl 19 (iV c.p3)) (by rfl)⟩
   intro _ Lx w7 hw hall
   try dsimp only at hw
   simp only [pT, iV, List.toList_toArray, putsZ_some, putsZ_none, putsZ_nil, List.setIfInBounds_toArray, List.set_cons_zero, List.set_cons_succ]
   have hL3 := hall 3 (by decide)
   have hL5 := hall 5 (by decide)
   simp only [hL3, hL5, cond_true] at hw
   have K7 := Lib.hid hw
   clear hw hall hL3 hL5
   go_upto_region 8 with fail
   refine lz (wz1 (.agg (poA ⟨x.p0, x.p1, x.p2, x.p3, x.p4, x.p5, x.p6, x.p7, x.p8, false, 4, 0, 1, (v.r : Nat), (v.c : Nat), (v.b : Nat), (v.p : Nat), 0, 0, c.p3, x.p20⟩)) (h1 := by exact kb_all K7.out 0 rfl 73 _ rfl rfl Tryd.underlying73 rfl (size50)) (h := ?_))
   refine kb_call K7.out 67 #[.agg (poA ⟨x.p0, x.p1, x.p2, x.p3, x.p4, x.p5, x.p6, x.p7, x.p8, false, 4, 0, 1, (v.r : Nat), (v.c : Nat), (v.b : Nat), (v.p : Nat), 0, 0, c.p3, x.p20⟩)] (.bool true) (by rfl) (by go_simp) (edge_is ⟨x.p0, x.p1, x.p2, x.p3, x.p4, x.p5, x.p6, x.p7, x.p8, false, 4, 0, 1, (v.r : Nat), (v.c : Nat), (v.b : Nat), (v.p : Nat), 0, 0, c.p3, x.p20⟩ true HED.out w7) (py (h := ?_))
   intro w8 K8
   refine wpList_nil ?_
   go_upto_region 9 with fail
   refine lz (wz1 (pT b1 11) (h := ?_))
   refine kb_set K8.out 0 rfl 3 _ _ 11 (.int .i64 2) rfl (by rfl) rfl rfl (kb_run_set K8.out (i := 0) rfl 3 11 (.int .i64 0) (.int .i64 2) (by rfl) (fun W h1 h2 => by go_simp)) (poA ⟨x.p0, x.p1, x.p2, x.p3, x.p4, x.p5, x.p6, x.p7, x.p8, false, 4, 2, 1, (v.r : Nat), (v.c : Nat), (v.b : Nat), (v.p : Nat), 0, 0, c.p3, x.p20⟩) (by kernel_rfl) (py (h := ?_))
   intro w9 K9
   refine wz1 (pT b1 19) (h := ?_)
   refine kb_set K9.out 0 rfl 3 _ _ 19 (.int .i64 0) rfl (by rfl) rfl rfl (kb_run_set K9.out (i := 0) rfl 3 19 (.int .i64 c.p3) (.int .i64 0) (by rfl) (fun W h1 h2 => by go_simp)) (poA ⟨x.p0, x.p1, x.p2, x.p3, x.p4, x.p5, x.p6, x.p7, x.p8, false, 4, 2, 1, (v.r : Nat), (v.c : Nat), (v.b : Nat), (v.p : Nat), 0, 0, 0, x.p20⟩) (by kernel_rfl) (py (h := ?_))
   intro w10 K10
   refine wpList_nil ?_
   go_upto_region 10 with fail
   refine lz (wz2 (.agg (poA ⟨x.p0, x.p1, x.p2, x.p3, x.p4, x.p5, x.p6, x.p7, x.p8, false, 4, 2, 1, (v.r : Nat), (v.c : Nat), (v.b : Nat), (v.p : Nat), 0, 0, 0, x.p20⟩)) (.bool true) (h1 := by exact kb_all K10.out 0 rfl 73 _ rfl rfl Tryd.underlying73 rfl (size50)) (h := ?_))
   refine kb_row K10.out 3 rfl 73 _ _ (poA ⟨x.p0, x.p1, x.p2, x.p3, x.p4, x.p5, x.p6, x.p7, x.p8, false, 4, 2, 1, (v.r : Nat), (v.c : Nat), (v.b : Nat), (v.p : Nat), 0, 0, 0, x.p20⟩) rfl rfl rfl rfl (size50) (by rfl) (po_all _) (py (h := ?_))
   intro w11 K11
   refine wz1 (.bool true) (h := nz ?_)
   go_wp2_with fail
   refine bodyPost_ret (v := .tuple #[.agg (poA ⟨x.p0, x.p1, x.p2, x.p3, x.p4, x.p5, x.p6, x.p7, x.p8, false, 4, 2, 1, (v.r : Nat), (v.c : Nat), (v.b : Nat), (v.p : Nat), 0, 0, 0, x.p20⟩), .bool true]) (results_row_tmp Tryd.results73 _ _ b4 73 (poA ⟨x.p0, x.p1, x.p2, x.p3, x.p4, x.p5, x.p6, x.p7, x.p8, false, 4, 2, 1, (v.r : Nat), (v.c : Nat), (v.b : Nat), (v.p : Nat), 0, 0, 0, x.p20⟩) (.bool true) _ rfl rfl (K11.out.at (i := 3) rfl) Tryd.underlying73 rfl (po_info _)) rfl ?_
   exact ⟨rfl, K11.out.below⟩
 case pos =>
  by_cases hi : x.p12 = 1
  case neg =>
   cases hed : edgeB x
   case false =>
    have hB : desB x u v = true := by simp [desB, hr, hi]
    have hP : desP x u v c.p3 = { x with p9 := false, p10 := 4, p12 := 1, p13 := (v.r : Nat), p14 := (v.c : Nat), p15 := (v.b : Nat), p16 := (v.p : Nat), p17 := 0, p18 := 0 } := by simp [desP, desV, hB, hed, hr]
    rw [hP, hB]
    unfold poU
    have HED := Lib.hid hed
    clear hP hB hed
    have K := Lib.hid (Kb.nil w)
    go_enter Tryd.func73, Tryd.ntmps73
    go_upto_region 0 with fail
    refine wp_region_lit ?_
    refine kb_box K.out 73 (.tmp 0) (poA { x with p13 := (u.r : Nat), p14 := (u.c : Nat), p15 := (u.b : Nat), p16 := (u.p : Nat) }) rfl rfl (by rfl) (pz (h := ?_))
    intro b1 w1 K1
    refine kb_box K1.out 71 (.tmp 1) (vcA v) rfl rfl (by rfl) (pz (h := ?_))
    intro b2 w2 K2
    refine kb_box K2.out 31 (.tmp 2) (cfA c) rfl rfl (by rfl) (pz (h := ?_))
    intro b3 w3 K3
    refine kb_alloc K3.out 73 (nil21) rfl z50 (by rfl) (pz (h := ?_))
    intro b4 w4 K4
    refine wz1 (.bool false) (h := nz ?_)
    go_upto_region 1 with fail
    refine lz (wz4 (pT b1 10) (iV x.p10) (.bool false) (.bool false) (h2 := by have q : w4.cell? ⟨b1, 10, none⟩ = some (iV x.p10) := K4.out.cell (i := 0) rfl (by rfl); go_simp) (h3 := by have q := hr; go_simp) (h := nz ?_))
    go_upto_region 2 with fail
    refine lz (wz6 (.bool false) (.bool false) (pT b1 12) (iV x.p12) (.bool true) (.bool true) (h4 := by have q : w4.cell? ⟨b1, 12, none⟩ = some (iV x.p12) := K4.out.cell (i := 0) rfl (by rfl); go_simp) (h5 := by have q := hi; go_simp) (h6 := by exact run_pick_no (.tmp 14) (.const (.bool true)) (.tmp 17) _ rfl rfl rfl) (h := wz1 (.bool true) (h := wk (h := wk (h := wk (h := wk (h := wz2 (.bool true) (.bool true) (h1 := by exact run_pick_yes (.tmp 19) (.const (.bool true)) (.tmp 23) _ rfl rfl rfl) (h := nz ?_))))))))
    go_upto_region 3 with fail
    refine lz (wz1 (pT b1 10) (h := ?_))
    refine kb_set K4.out 0 rfl 3 _ _ 10 (.int .i64 4) rfl (by rfl) rfl rfl (kb_run_set K4.out (i := 0) rfl 3 10 (.int .i64 x.p10) (.int .i64 4) (by rfl) (fun W h1 h2 => by go_simp)) (poA { x with p10 := 4, p13 := (u.r : Nat), p14 := (u.c : Nat), p15 := (u.b : Nat), p16 := (u.p : Nat) }) (by kernel_rfl) (py (h := ?_))
    intro w5 K5
    refine wpList_nil ?_
    go_upto_region 4 with fail
    refine lz (wz1 (.bool true) (h := nz ?_))
    go_upto_region 5 with fail
    refine rk (fun (_ : Unit) => [.agg (vcA v), pT b1 12, undef, pT b1 13, undef, pT b1 17, undef, pT b1 18, undef, pT b1 9, undef]) (fun _ Lx w' => Kb w [(b1, poA { x with p9 := (bif Lx 10 then false else x.p9), p10 := 4, p12 := (bif Lx 2 then 1 else x.p12), p13 := (bif Lx 4 then (v.r : Nat) else (u.r : Nat)), p14 := (bif Lx 4 then (v.c : Nat) else (u.c : Nat)), p15 := (bif Lx 4 then (v.b : Nat) else (u.b : Nat)), p16 := (bif Lx 4 then (v.p : Nat) else (u.p : Nat)), p17 := (bif Lx 6 then 0 else x.p17), p18 := (bif Lx 8 then 0 else x.p18) }, 73), (b2, vcA v, 71), (b3, cfA c, 31), (b4, nil21, 73)] w') (()) [] [] [(0, fun _ => [(4, pT b2 0)]), (2, fun _ => [(28, pT b1 12)]), (4, fun _ => [(27, .agg (vcA v)), (29, pT b1 13)]), (6, fun _ => [(30, pT b1 17)]), (8, fun _ => [(31, pT b1 18)]), (10, fun _ => [(32, pT b1 9)])] [2, 4, 6, 8, 10] (K5.out.drew) (fun _ _ _ _ => trivial) (fun _ L1 L2 _ e h => by (try dsimp only at h ⊢); rw [← e 2 (by decide), ← e 4 (by decide), ← e 6 (by decide), ← e 8 (by decide), ← e 10 (by decide)]; exact h) ?_ ?_
    ·
     refine ⟨?_, ?_, ?_, ?_, ?_, ?_, trivial⟩ <;> (rintro _ Lx w' hw hL haft hdc ρ hc hf hG hs o ho; cases ho; try dsimp only [pT, iV, seen] at hw hs)
     ·
      obtain ⟨e4, _⟩ := hs
      exact sq (.agg (vcA v)) (l_var 71 _ rfl _ e4 _ _ _ (Kb.at (i := 1) hw rfl) Tryd.underlying71 rfl (sizeV))
     ·
      obtain ⟨e28, _⟩ := hs
      exact ss 3 _ _ rfl ⟨b1, 12, none⟩ (iV 1) e28 (hc _) (kb_run_set hw (i := 0) rfl 3 12 (iV (bif Lx 2 then 1 else x.p12)) (iV 1) (by rfl) (fun W h1 h2 => by go_simp)) ⟨(), fun _ _ => rfl, rfl, cast_blk (Kb.set (i := 0) hw rfl 12 (iV 1)) (by rfl)⟩
     ·
      obtain ⟨e27, e29, _⟩ := hs
      exact sm 71 _ _ rfl b1 13 (vcA v) e29 e27 ((Kb.at (i := 0) hw rfl).thereN 13 4 (Nat.le_of_ble_eq_true (by kernel_rfl))) (sizeV) (by kernel_rfl) ⟨(), fun _ _ => rfl, rfl, cast_blk (Kb.mid (i := 0) hw rfl 13 (vcA v).toList) (by rfl)⟩
     ·
      obtain ⟨e30, _⟩ := hs
      exact ss 3 _ _ rfl ⟨b1, 17, none⟩ (iV 0) e30 (hc _) (kb_run_set hw (i := 0) rfl 3 17 (iV (bif Lx 6 then 0 else x.p17)) (iV 0) (by rfl) (fun W h1 h2 => by go_simp)) ⟨(), fun _ _ => rfl, rfl, cast_blk (Kb.set (i := 0) hw rfl 17 (iV 0)) (by rfl)⟩
     ·
      obtain ⟨e31, _⟩ := hs
      exact ss 3 _ _ rfl ⟨b1, 18, none⟩ (iV 0) e31 (hc _) (kb_run_set hw (i := 0) rfl 3 18 (iV (bif Lx 8 then 0 else x.p18)) (iV 0) (by rfl) (fun W h1 h2 => by go_simp)) ⟨(), fun _ _ => rfl, rfl, cast_blk (Kb.set (i := 0) hw rfl 18 (iV 0)) (by rfl)⟩
     ·
      obtain ⟨e32, _⟩ := hs
      exact ss 4 _ _ rfl ⟨b1, 9, none⟩ (.bool false) e32 (hc _) (kb_run_set hw (i := 0) rfl 4 9 (.bool (bif Lx 10 then false else x.p9)) (.bool false) (by rfl) (fun W h1 h2 => by go_simp)) ⟨(), fun _ _ => rfl, rfl, cast_blk (Kb.set (i := 0) hw rfl 9 (.bool false)) (by rfl)⟩
    intro _ Lx w6 hw hall
    try dsimp only at hw
    simp only [pT, iV, List.toList_toArray, putsZ_some, putsZ_none, putsZ_nil, List.setIfInBounds_toArray, List.set_cons_zero, List.set_cons_succ]
    have hL2 := hall 2 (by decide)
    have hL4 := hall 4 (by decide)
    have hL6 := hall 6 (by decide)
    have hL8 := hall 8 (by decide)
    have hL10 := hall 10 (by decide)
    simp only [hL2, hL4, hL6, hL8, hL10, cond_true] at hw
    have K6 := Lib.hid hw
    clear hw hall hL2 hL4 hL6 hL8 hL10
    go_upto_region 6 with fail
    refine lz (wz1 (.bool false) (h := nz ?_))
    go_upto_region 8 with fail
    refine lz (wz1 (.agg (poA { x with p9 := false, p10 := 4, p12 := 1, p13 := (v.r : Nat), p14 := (v.c : Nat), p15 := (v.b : Nat), p16 := (v.p : Nat), p17 := 0, p18 := 0 })) (h1 := by exact kb_all K6.out 0 rfl 73 _ rfl rfl Tryd.underlying73 rfl (size50)) (h := ?_))
    refine kb_call K6.out 67 #[.agg (poA { x with p9 := false, p10 := 4, p12 := 1, p13 := (v.r : Nat), p14 := (v.c : Nat), p15 := (v.b : Nat), p16 := (v.p : Nat), p17 := 0, p18 := 0 })] (.bool false) (by rfl) (by go_simp) (edge_is { x with p9 := false, p10 := 4, p12 := 1, p13 := (v.r : Nat), p14 := (v.c : Nat), p15 := (v.b : Nat), p16 := (v.p : Nat), p17 := 0, p18 := 0 } false HED.out w6) (py (h := ?_))
    intro w7 K7
    refine wpList_nil ?_
    go_upto_region 10 with fail
    refine lz (wz2 (.agg (poA { x with p9 := false, p10 := 4, p12 := 1, p13 := (v.r : Nat), p14 := (v.c : Nat), p15 := (v.b : Nat), p16 := (v.p : Nat), p17 := 0, p18 := 0 })) (.bool true) (h1 := by exact kb_all K7.out 0 rfl 73 _ rfl rfl Tryd.underlying73 rfl (size50)) (h := ?_))
    refine kb_row K7.out 3 rfl 73 _ _ (poA { x with p9 := false, p10 := 4, p12 := 1, p13 := (v.r : Nat), p14 := (v.c : Nat), p15 := (v.b : Nat), p16 := (v.p : Nat), p17 := 0, p18 := 0 }) rfl rfl rfl rfl (size50) (by rfl) (po_all _) (py (h := ?_))
    intro w8 K8
    refine wz1 (.bool true) (h := nz ?_)
    go_wp2_with fail
    refine bodyPost_ret (v := .tuple #[.agg (poA { x with p9 := false, p10 := 4, p12 := 1, p13 := (v.r : Nat), p14 := (v.c : Nat), p15 := (v.b : Nat), p16 := (v.p : Nat), p17 := 0, p18 := 0 }), .bool true]) (results_row_tmp Tryd.results73 _ _ b4 73 (poA { x with p9 := false, p10 := 4, p12 := 1, p13 := (v.r : Nat), p14 := (v.c : Nat), p15 := (v.b : Nat), p16 := (v.p : Nat), p17 := 0, p18 := 0 }) (.bool true) _ rfl rfl (K8.out.at (i := 3) rfl) Tryd.underlying73 rfl (po_info _)) rfl ?_
    exact ⟨rfl, K8.out.below⟩
   case true =>
    have hB : desB x u v = true := by simp [desB, hr, hi]
    have hP : desP x u v c.p3 = ⟨x.p0, x.p1, x.p2, x.p3, x.p4, x.p5, x.p6, x.p7, x.p8, false, 4, 2, 1, (v.r : Nat), (v.c : Nat), (v.b : Nat), (v.p : Nat), 0, 0, 0, x.p20⟩ := by simp [desP, desV, hB, hed, hr]
    rw [hP, hB]
    unfold poU
    have HED := Lib.hid hed
    clear hP hB hed
    have K := Lib.hid (Kb.nil w)
    go_enter Tryd.func73, Tryd.ntmps73
    go_upto_region 0 with fail
    refine wp_region_lit ?_
    refine kb_box K.out 73 (.tmp 0) (poA { x with p13 := (u.r : Nat), p14 := (u.c : Nat), p15 := (u.b : Nat), p16 := (u.p : Nat) }) rfl rfl (by rfl) (pz (h := ?_))
    intro b1 w1 K1
    refine kb_box K1.out 71 (.tmp 1) (vcA v) rfl rfl (by rfl) (pz (h := ?_))
    intro b2 w2 K2
    refine kb_box K2.out 31 (.tmp 2) (cfA c) rfl rfl (by rfl) (pz (h := ?_))
    intro b3 w3 K3
    refine kb_alloc K3.out 73 (nil21) rfl z50 (by rfl) (pz (h := ?_))
    intro b4 w4 K4
    refine wz1 (.bool false) (h := nz ?_)
    go_upto_region 1 with fail
    refine lz (wz4 (pT b1 10) (iV x.p10) (.bool false) (.bool false) (h2 := by have q : w4.cell? ⟨b1, 10, none⟩ = some (iV x.p10) := K4.out.cell (i := 0) rfl (by rfl); go_simp) (h3 := by have q := hr; go_simp) (h := nz ?_))
    go_upto_region 2 with fail
    refine lz (wz6 (.bool false) (.bool false) (pT b1 12) (iV x.p12) (.bool true) (.bool true) (h4 := by have q : w4.cell? ⟨b1, 12, none⟩ = some (iV x.p12) := K4.out.cell (i := 0) rfl (by rfl); go_simp) (h5 := by have q := hi; go_simp) (h6 := by exact run_pick_no (.tmp 14) (.const (.bool true)) (.tmp 17) _ rfl rfl rfl) (h := wz1 (.bool true) (h := wk (h := wk (h := wk (h := wk (h := wz2 (.bool true) (.bool true) (h1 := by exact run_pick_yes (.tmp 19) (.const (.bool true)) (.tmp 23) _ rfl rfl rfl) (h := nz ?_))))))))
    go_upto_region 3 with fail
    refine lz (wz1 (pT b1 10) (h := ?_))
    refine kb_set K4.out 0 rfl 3 _ _ 10 (.int .i64 4) rfl (by rfl) rfl rfl (kb_run_set K4.out (i := 0) rfl 3 10 (.int .i64 x.p10) (.int .i64 4) (by rfl) (fun W h1 h2 => by go_simp)) (poA { x with p10 := 4, p13 := (u.r : Nat), p14 := (u.c : Nat), p15 := (u.b : Nat), p16 := (u.p : Nat) }) (by kernel_rfl) (py (h := ?_))
    intro w5 K5
    refine wpList_nil ?_
    go_upto_region 4 with fail
    refine lz (wz1 (.bool true) (h := nz ?_))
    go_upto_region 5 with fail
    refine rk (fun (_ : Unit) => [.agg (vcA v), pT b1 12, undef, pT b1 13, undef, pT b1 17, undef, pT b1 18, undef, pT b1 9, undef]) (fun _ Lx w' => Kb w [(b1, poA { x with p9 := (bif Lx 10 then false else x.p9), p10 := 4, p12 := (bif Lx 2 then 1 else x.p12), p13 := (bif Lx 4 then (v.r : Nat) else (u.r : Nat)), p14 := (bif Lx 4 then (v.c : Nat) else (u.c : Nat)), p15 := (bif Lx 4 then (v.b : Nat) else (u.b : Nat)), p16 := (bif Lx 4 then (v.p : Nat) else (u.p : Nat)), p17 := (bif Lx 6 then 0 else x.p17), p18 := (bif Lx 8 then 0 else x.p18) }, 73), (b2, vcA v, 71), (b3, cfA c, 31), (b4, nil21, 73)] w') (()) [] [] [(0, fun _ => [(4, pT b2 0)]), (2, fun _ => [(28, pT b1 12)]), (4, fun _ => [(27, .agg (vcA v)), (29, pT b1 13)]), (6, fun _ => [(30, pT b1 17)]), (8, fun _ => [(31, pT b1 18)]), (10, fun _ => [(32, pT b1 9)])] [2, 4, 6, 8, 10] (K5.out.drew) (fun _ _ _ _ => trivial) (fun _ L1 L2 _ e h => by (try dsimp only at h ⊢); rw [← e 2 (by decide), ← e 4 (by decide), ← e 6 (by decide), ← e 8 (by decide), ← e 10 (by decide)]; exact h) ?_ ?_
    ·
     refine ⟨?_, ?_, ?_, ?_, ?_, ?_, trivial⟩ <;> (rintro _ Lx w' hw hL haft hdc ρ hc hf hG hs o ho; cases ho; try dsimp only [pT, iV, seen] at hw hs)
     ·
      obtain ⟨e4, _⟩ := hs
      exact sq (.agg (vcA v)) (l_var 71 _ rfl _ e4 _ _ _ (Kb.at (i := 1) hw rfl) Tryd.underlying71 rfl (sizeV))
     ·
      obtain ⟨e28, _⟩ := hs
      exact ss 3 _ _ rfl ⟨b1, 12, none⟩ (iV 1) e28 (hc _) (kb_run_set hw (i := 0) rfl 3 12 (iV (bif Lx 2 then 1 else x.p12)) (iV 1) (by rfl) (fun W h1 h2 => by go_simp)) ⟨(), fun _ _ => rfl, rfl, cast_blk (Kb.set (i := 0) hw rfl 12 (iV 1)) (by rfl)⟩
     ·
      obtain ⟨e27, e29, _⟩ := hs
      exact sm 71 _ _ rfl b1 13 (vcA v) e29 e27 ((Kb.at (i := 0) hw rfl).thereN 13 4 (Nat.le_of_ble_eq_true (by kernel_rfl))) (sizeV) (by kernel_rfl) ⟨(), fun _ _ => rfl, rfl, cast_blk (Kb.mid (i := 0) hw rfl 13 (vcA v).toList) (by rfl)⟩
     ·
      obtain ⟨e30, _⟩ := hs
      exact ss 3 _ _ rfl ⟨b1, 17, none⟩ (iV 0) e30 (hc _) (kb_run_set hw (i := 0) rfl 3 17 (iV (bif Lx 6 then 0 else x.p17)) (iV 0) (by rfl) (fun W h1 h2 => by go_simp)) ⟨(), fun _ _ => rfl, rfl, cast_blk (Kb.set (i := 0) hw rfl 17 (iV 0)) (by rfl)⟩
     ·
      obtain ⟨e31, _⟩ := hs
      exact ss 3 _ _ rfl ⟨b1, 18, none⟩ (iV 0) e31 (hc _) (kb_run_set hw (i := 0) rfl 3 18 (iV (bif Lx 8 then 0 else x.p18)) (iV 0) (by rfl) (fun W h1 h2 => by go_simp)) ⟨(), fun _ _ => rfl, rfl, cast_blk (Kb.set (i := 0) hw rfl 18 (iV 0)) (by rfl)⟩
     ·
      obtain ⟨e32, _⟩ := hs
      exact ss 4 _ _ rfl ⟨b1, 9, none⟩ (.bool false) e32 (hc _) (kb_run_set hw (i := 0) rfl 4 9 (.bool (bif Lx 10 then false else x.p9)) (.bool false) (by rfl) (fun W h1 h2 => by go_simp)) ⟨(), fun _ _ => rfl, rfl, cast_blk (Kb.set (i := 0) hw rfl 9 (.bool false)) (by rfl)⟩
    intro _ Lx w6 hw hall
    try dsimp only at hw
    simp only [pT, iV, List.toList_toArray, putsZ_some, putsZ_none, putsZ_nil, List.setIfInBounds_toArray, List.set_cons_zero, List.set_cons_succ]
    have hL2 := hall 2 (by decide)
    have hL4 := hall 4 (by decide)
    have hL6 := hall 6 (by decide)
    have hL8 := hall 8 (by decide)
    have hL10 := hall 10 (by decide)
    simp only [hL2, hL4, hL6, hL8, hL10, cond_true] at hw
    have K6 := Lib.hid hw
    clear hw hall hL2 hL4 hL6 hL8 hL10
    go_upto_region 6 with fail
    refine lz (wz1 (.bool false) (h := nz ?_))
    go_upto_region 8 with fail
    refine lz (wz1 (.agg (poA { x with p9 := false, p10 := 4, p12 := 1, p13 := (v.r : Nat), p14 := (v.c : Nat), p15 := (v.b : Nat), p16 := (v.p : Nat), p17 := 0, p18 := 0 })) (h1 := by exact kb_all K6.out 0 rfl 73 _ rfl rfl Tryd.underlying73 rfl (size50)) (h := ?_))
    refine kb_call K6.out 67 #[.agg (poA { x with p9 := false, p10 := 4, p12 := 1, p13 := (v.r : Nat), p14 := (v.c : Nat), p15 := (v.b : Nat), p16 := (v.p : Nat), p17 := 0, p18 := 0 })] (.bool true) (by rfl) (by go_simp) (edge_is { x with p9 := false, p10 := 4, p12 := 1, p13 := (v.r : Nat), p14 := (v.c : Nat), p15 := (v.b : Nat), p16 := (v.p : Nat), p17 := 0, p18 := 0 } true HED.out w6) (py (h := ?_))
    intro w7 K7
    refine wpList_nil ?_
    go_upto_region 9 with fail
    refine lz (wz1 (pT b1 11) (h := ?_))
    refine kb_set K7.out 0 rfl 3 _ _ 11 (.int .i64 2) rfl (by rfl) rfl rfl (kb_run_set K7.out (i := 0) rfl 3 11 (.int .i64 x.p11) (.int .i64 2) (by rfl) (fun W h1 h2 => by go_simp)) (poA ⟨x.p0, x.p1, x.p2, x.p3, x.p4, x.p5, x.p6, x.p7, x.p8, false, 4, 2, 1, (v.r : Nat), (v.c : Nat), (v.b : Nat), (v.p : Nat), 0, 0, x.p19, x.p20⟩) (by kernel_rfl) (py (h := ?_))
    intro w8 K8
    refine wz1 (pT b1 19) (h := ?_)
    refine kb_set K8.out 0 rfl 3 _ _ 19 (.int .i64 0) rfl (by rfl) rfl rfl (kb_run_set K8.out (i := 0) rfl 3 19 (.int .i64 x.p19) (.int .i64 0) (by rfl) (fun W h1 h2 => by go_simp)) (poA ⟨x.p0, x.p1, x.p2, x.p3, x.p4, x.p5, x.p6, x.p7, x.p8, false, 4, 2, 1, (v.r : Nat), (v.c : Nat), (v.b : Nat), (v.p : Nat), 0, 0, 0, x.p20⟩) (by kernel_rfl) (py (h := ?_))
    intro w9 K9
    refine wpList_nil ?_
    go_upto_region 10 with fail
    refine lz (wz2 (.agg (poA ⟨x.p0, x.p1, x.p2, x.p3, x.p4, x.p5, x.p6, x.p7, x.p8, false, 4, 2, 1, (v.r : Nat), (v.c : Nat), (v.b : Nat), (v.p : Nat), 0, 0, 0, x.p20⟩)) (.bool true) (h1 := by exact kb_all K9.out 0 rfl 73 _ rfl rfl Tryd.underlying73 rfl (size50)) (h := ?_))
    refine kb_row K9.out 3 rfl 73 _ _ (poA ⟨x.p0, x.p1, x.p2, x.p3, x.p4, x.p5, x.p6, x.p7, x.p8, false, 4, 2, 1, (v.r : Nat), (v.c : Nat), (v.b : Nat), (v.p : Nat), 0, 0, 0, x.p20⟩) rfl rfl rfl rfl (size50) (by rfl) (po_all _) (py (h := ?_))
    intro w10 K10
    refine wz1 (.bool true) (h := nz ?_)
    go_wp2_with fail
    refine bodyPost_ret (v := .tuple #[.agg (poA ⟨x.p0, x.p1, x.p2, x.p3, x.p4, x.p5, x.p6, x.p7, x.p8, false, 4, 2, 1, (v.r : Nat), (v.c : Nat), (v.b : Nat), (v.p : Nat), 0, 0, 0, x.p20⟩), .bool true]) (results_row_tmp Tryd.results73 _ _ b4 73 (poA ⟨x.p0, x.p1, x.p2, x.p3, x.p4, x.p5, x.p6, x.p7, x.p8, false, 4, 2, 1, (v.r : Nat), (v.c : Nat), (v.b : Nat), (v.p : Nat), 0, 0, 0, x.p20⟩) (.bool true) _ rfl rfl (K10.out.at (i := 3) rfl) Tryd.underlying73 rfl (po_info _)) rfl ?_
    exact ⟨rfl, K10.out.below⟩
  case pos =>
   cases he : eqV u v
   case false =>
    cases hed : edgeB x
    case false =>
     have hB : desB x u v = true := by simp [desB, hr, hi, he]
     have hP : desP x u v c.p3 = { x with p9 := false, p10 := 4, p12 := 1, p13 := (v.r : Nat), p14 := (v.c : Nat), p15 := (v.b : Nat), p16 := (v.p : Nat), p17 := 0, p18 := 0 } := by simp [desP, desV, hB, hed, hr]
     rw [hP, hB]
     unfold poU
     have HED := Lib.hid hed
     clear hP hB hed
     have K := Lib.hid (Kb.nil w)
     go_enter Tryd.func73, Tryd.ntmps73
     go_upto_region 0 with fail
     refine wp_region_lit ?_
     refine kb_box K.out 73 (.tmp 0) (poA { x with p13 := (u.r : Nat), p14 := (u.c : Nat), p15 := (u.b : Nat), p16 := (u.p : Nat) }) rfl rfl (by rfl) (pz (h := ?_))
     intro b1 w1 K1
     refine kb_box K1.out 71 (.tmp 1) (vcA v) rfl rfl (by rfl) (pz (h := ?_))
     intro b2 w2 K2
     refine kb_box K2.out 31 (.tmp 2) (cfA c) rfl rfl (by rfl) (pz (h := ?_))
     intro b3 w3 K3
     refine kb_alloc K3.out 73 (nil21) rfl z50 (by rfl) (pz (h := ?_))
     intro b4 w4 K4
     refine wz1 (.bool false) (h := nz ?_)
     go_upto_region 1 with fail
     refine lz (wz4 (pT b1 10) (iV x.p10) (.bool false) (.bool false) (h2 := by have q : w4.cell? ⟨b1, 10, none⟩ = some (iV x.p10) := K4.out.cell (i := 0) rfl (by rfl); go_simp) (h3 := by have q := hr; go_simp) (h := nz ?_))
     go_upto_region 2 with fail
     refine lz (wz6 (.bool false) (.bool false) (pT b1 12) (iV x.p12) (.bool false) (.bool false) (h4 := by have q : w4.cell? ⟨b1, 12, none⟩ = some (iV x.p12) := K4.out.cell (i := 0) rfl (by rfl); go_simp) (h5 := by have q := hi; go_simp) (h6 := by exact run_pick_no (.tmp 14) (.const (.bool true)) (.tmp 17) _ rfl rfl rfl) (h := wz6 (.bool false) (pT b1 13) (.agg (#[.int .u64 (u.r : Nat), .int .u32 (u.c : Nat), .int .u64 (u.b : Nat), .int .u16 (u.p : Nat)])) (.agg (vcA v)) (.bool true) (.bool true) (h3 := by exact kb_prt K4.out 0 rfl 71 _ 13 rfl rfl (part_of (by kernel_rfl)) Tryd.underlying71 rfl (sizeV)) (h4 := by exact kb_all K4.out 1 rfl 71 _ rfl rfl Tryd.underlying71 rfl (sizeV)) (h5 := by have q := CE.out; rw [he] at q; go_simp) (h6 := by exact run_pick_no (.tmp 19) (.const (.bool true)) (.tmp 23) _ rfl rfl rfl) (h := wz1 (.bool true) (h := nz ?_))))
     go_upto_region 3 with fail
     refine lz (wz1 (pT b1 10) (h := ?_))
     refine kb_set K4.out 0 rfl 3 _ _ 10 (.int .i64 4) rfl (by rfl) rfl rfl (kb_run_set K4.out (i := 0) rfl 3 10 (.int .i64 x.p10) (.int .i64 4) (by rfl) (fun W h1 h2 => by go_simp)) (poA { x with p10 := 4, p13 := (u.r : Nat), p14 := (u.c : Nat), p15 := (u.b : Nat), p16 := (u.p : Nat) }) (by kernel_rfl) (py (h := ?_))
     intro w5 K5
     refine wpList_nil ?_
     go_upto_region 4 with fail
     refine lz (wz1 (.bool true) (h := nz ?_))
     go_upto_region 5 with fail
     refine rk (fun (_ : Unit) => [.agg (vcA v), pT b1 12, undef, pT b1 13, undef, pT b1 17, undef, pT b1 18, undef, pT b1 9, undef]) (fun _ Lx w' => Kb w [(b1, poA { x with p9 := (bif Lx 10 then false else x.p9), p10 := 4, p12 := (bif Lx 2 then 1 else x.p12), p13 := (bif Lx 4 then (v.r : Nat) else (u.r : Nat)), p14 := (bif Lx 4 then (v.c : Nat) else (u.c : Nat)), p15 := (bif Lx 4 then (v.b : Nat) else (u.b : Nat)), p16 := (bif Lx 4 then (v.p : Nat) else (u.p : Nat)), p17 := (bif Lx 6 then 0 else x.p17), p18 := (bif Lx 8 then 0 else x.p18) }, 73), (b2, vcA v, 71), (b3, cfA c, 31), (b4, nil21, 73)] w') (()) [] [] [(0, fun _ => [(4, pT b2 0)]), (2, fun _ => [(28, pT b1 12)]), (4, fun _ => [(27, .agg (vcA v)), (29, pT b1 13)]), (6, fun _ => [(30, pT b1 17)]), (8, fun _ => [(31, pT b1 18)]), (10, fun _ => [(32, pT b1 9)])] [2, 4, 6, 8, 10] (K5.out.drew) (fun _ _ _ _ => trivial) (fun _ L1 L2 _ e h => by (try dsimp only at h ⊢); rw [← e 2 (by decide), ← e 4 (by decide), ← e 6 (by decide), ← e 8 (by decide), ← e 10 (by decide)]; exact h) ?_ ?_
     ·
      refine ⟨?_, ?_, ?_, ?_, ?_, ?_, trivial⟩ <;> (rintro _ Lx w' hw hL haft hdc ρ hc hf hG hs o ho; cases ho; try dsimp only [pT, iV, seen] at hw hs)
      ·
       obtain ⟨e4, _⟩ := hs
       exact sq (.agg (vcA v)) (l_var 71 _ rfl _ e4 _ _ _ (Kb.at (i := 1) hw rfl) Tryd.underlying71 rfl (sizeV))
      ·
       obtain ⟨e28, _⟩ := hs
       exact ss 3 _ _ rfl ⟨b1, 12, none⟩ (iV 1) e28 (hc _) (kb_run_set hw (i := 0) rfl 3 12 (iV (bif Lx 2 then 1 else x.p12)) (iV 1) (by rfl) (fun W h1 h2 => by go_simp)) ⟨(), fun _ _ => rfl, rfl, cast_blk (Kb.set (i := 0) hw rfl 12 (iV 1)) (by rfl)⟩
      ·
       obtain ⟨e27, e29, _⟩ := hs
       exact sm 71 _ _ rfl b1 13 (vcA v) e29 e27 ((Kb.at (i := 0) hw rfl).thereN 13 4 (Nat.le_of_ble_eq_true (by kernel_rfl))) (sizeV) (by kernel_rfl) ⟨(), fun _ _ => rfl, rfl, cast_blk (Kb.mid (i := 0) hw rfl 13 (vcA v).toList) (by rfl)⟩
      ·
       obtain ⟨e30, _⟩ := hs
       exact ss 3 _ _ rfl ⟨b1, 17, none⟩ (iV 0) e30 (hc _) (kb_run_set hw (i := 0) rfl 3 17 (iV (bif Lx 6 then 0 else x.p17)) (iV 0) (by rfl) (fun W h1 h2 => by go_simp)) ⟨(), fun _ _ => rfl, rfl, cast_blk (Kb.set (i := 0) hw rfl 17 (iV 0)) (by rfl)⟩
      ·
       obtain ⟨e31, _⟩ := hs
       exact ss 3 _ _ rfl ⟨b1, 18, none⟩ (iV 0) e31 (hc _) (kb_run_set hw (i := 0) rfl 3 18 (iV (bif Lx 8 then 0 else x.p18)) (iV 0) (by rfl) (fun W h1 h2 => by go_simp)) ⟨(), fun _ _ => rfl, rfl, cast_blk (Kb.set (i := 0) hw rfl 18 (iV 0)) (by rfl)⟩
      ·
       obtain ⟨e32, _⟩ := hs
       exact ss 4 _ _ rfl ⟨b1, 9, none⟩ (.bool false) e32 (hc _) (kb_run_set hw (i := 0) rfl 4 9 (.bool (bif Lx 10 then false else x.p9)) (.bool false) (by rfl) (fun W h1 h2 => by go_simp)) ⟨(), fun _ _ => rfl, rfl, cast_blk (Kb.set (i := 0) hw rfl 9 (.bool false)) (by rfl)⟩
     intro _ Lx w6 hw hall
     try dsimp only at hw
     simp only [pT, iV, List.toList_toArray, putsZ_some, putsZ_none, putsZ_nil, List.setIfInBounds_toArray, List.set_cons_zero, List.set_cons_succ]
     have hL2 := hall 2 (by decide)
     have hL4 := hall 4 (by decide)
     have hL6 := hall 6 (by decide)
     have hL8 := hall 8 (by decide)
     have hL10 := hall 10 (by decide)
     simp only [hL2, hL4, hL6, hL8, hL10, cond_true] at hw
     have K6 := Lib.hid hw
     clear hw hall hL2 hL4 hL6 hL8 hL10
     go_upto_region 6 with fail
     refine lz (wz1 (.bool false) (h := nz ?_))
     go_upto_region 8 with fail
     refine lz (wz1 (.agg (poA { x with p9 := false, p10 := 4, p12 := 1, p13 := (v.r : Nat), p14 := (v.c : Nat), p15 := (v.b : Nat), p16 := (v.p : Nat), p17 := 0, p18 := 0 })) (h1 := by exact kb_all K6.out 0 rfl 73 _ rfl rfl Tryd.underlying73 rfl (size50)) (h := ?_))
     refine kb_call K6.out 67 #[.agg (poA { x with p9 := false, p10 := 4, p12 := 1, p13 := (v.r : Nat), p14 := (v.c : Nat), p15 := (v.b : Nat), p16 := (v.p : Nat), p17 := 0, p18 := 0 })] (.bool false) (by rfl) (by go_simp) (edge_is { x with p9 := false, p10 := 4, p12 := 1, p13 := (v.r : Nat), p14 := (v.c : Nat), p15 := (v.b : Nat), p16 := (v.p : Nat), p17 := 0, p18 := 0 } false HED.out w6) (py (h := ?_))
     intro w7 K7
     refine wpList_nil ?_
     go_upto_region 10 with fail
     refine lz (wz2 (.agg (poA { x with p9 := false, p10 := 4, p12 := 1, p13 := (v.r : Nat), p14 := (v.c : Nat), p15 := (v.b : Nat), p16 := (v.p : Nat), p17 := 0, p18 := 0 })) (.bool true) (h1 := by exact kb_all K7.out 0 rfl 73 _ rfl rfl Tryd.underlying73 rfl (size50)) (h := ?_))
     refine kb_row K7.out 3 rfl 73 _ _ (poA { x with p9 := false, p10 := 4, p12 := 1, p13 := (v.r : Nat), p14 := (v.c : Nat), p15 := (v.b : Nat), p16 := (v.p : Nat), p17 := 0, p18 := 0 }) rfl rfl rfl rfl (size50) (by rfl) (po_all _) (py (h := ?_))
     intro w8 K8
     refine wz1 (.bool true) (h := nz ?_)
     go_wp2_with fail
     refine bodyPost_ret (v := .tuple #[.agg (poA { x with p9 := false, p10 := 4, p12 := 1, p13 := (v.r : Nat), p14 := (v.c : Nat), p15 := (v.b : Nat), p16 := (v.p : Nat), p17 := 0, p18 := 0 }), .bool true]) (results_row_tmp Tryd.results73 _ _ b4 73 (poA { x with p9 := false, p10 := 4, p12 := 1, p13 := (v.r : Nat), p14 := (v.c : Nat), p15 := (v.b : Nat), p16 := (v.p : Nat), p17 := 0, p18 := 0 }) (.bool true) _ rfl rfl (K8.out.at (i := 3) rfl) Tryd.underlying73 rfl (po_info _)) rfl ?_
     exact ⟨rfl, K8.out.below⟩
    case true =>
     have hB : desB x u v = true := by simp [desB, hr, hi, he]
     have hP : desP x u v c.p3 = ⟨x.p0, x.p1, x.p2, x.p3, x.p4, x.p5, x.p6, x.p7, x.p8, false, 4, 2, 1, (v.r : Nat), (v.c : Nat), (v.b : Nat), (v.p : Nat), 0, 0, 0, x.p20⟩ := by simp [desP, desV, hB, hed, hr]
     rw [hP, hB]
     unfold poU
     have HED := Lib.hid hed
     clear hP hB hed
     have K := Lib.hid (Kb.nil w)
     go_enter Tryd.func73, Tryd.ntmps73
     go_upto_region 0 with fail
     refine wp_region_lit ?_
     refine kb_box K.out 73 (.tmp 0) (poA { x with p13 := (u.r : Nat), p14 := (u.c : Nat), p15 := (u.b : Nat), p16 := (u.p : Nat) }) rfl rfl (by rfl) (pz (h := ?_))
     intro b1 w1 K1
     refine kb_box K1.out 71 (.tmp 1) (vcA v) rfl rfl (by rfl) (pz (h := ?_))
     intro b2 w2 K2
     refine kb_box K2.out 31 (.tmp 2) (cfA c) rfl rfl (by rfl) (pz (h := ?_))
     intro b3 w3 K3
     refine kb_alloc K3.out 73 (nil21) rfl z50 (by rfl) (pz (h := ?_))
     intro b4 w4 K4
     refine wz1 (.bool false) (h := nz ?_)
     go_upto_region 1 with fail
     refine lz (wz4 (pT b1 10) (iV x.p10) (.bool false) (.bool false) (h2 := by have q : w4.cell? ⟨b1, 10, none⟩ = some (iV x.p10) := K4.out.cell (i := 0) rfl (by rfl); go_simp) (h3 := by have q := hr; go_simp) (h := nz ?_))
     go_upto_region 2 with fail
     refine lz (wz6 (.bool false) (.bool false) (pT b1 12) (iV x.p12) (.bool false) (.bool false) (h4 := by have q : w4.cell? ⟨b1, 12, none⟩ = some (iV x.p12) := K4.out.cell (i := 0) rfl (by rfl); go_simp) (h5 := by have q := hi; go_simp) (h6 := by exact run_pick_no (.tmp 14) (.const (.bool true)) (.tmp 17) _ rfl rfl rfl) (h := wz6 (.bool false) (pT b1 13) (.agg (#[.int .u64 (u.r : Nat), .int .u32 (u.c : Nat), .int .u64 (u.b : Nat), .int .u16 (u.p : Nat)])) (.agg (vcA v)) (.bool true) (.bool true) (h3 := by exact kb_prt K4.out 0 rfl 71 _ 13 rfl rfl (part_of (by kernel_rfl)) Tryd.underlying71 rfl (sizeV)) (h4 := by exact kb_all K4.out 1 rfl 71 _ rfl rfl Tryd.underlying71 rfl (sizeV)) (h5 := by have q := CE.out; rw [he] at q; go_simp) (h6 := by exact run_pick_no (.tmp 19) (.const (.bool true)) (.tmp 23) _ rfl rfl rfl) (h := wz1 (.bool true) (h := nz ?_))))
     go_upto_region 3 with fail
     refine lz (wz1 (pT b1 10) (h := ?_))
     refine kb_set K4.out 0 rfl 3 _ _ 10 (.int .i64 4) rfl (by rfl) rfl rfl (kb_run_set K4.out (i := 0) rfl 3 10 (.int .i64 x.p10) (.int .i64 4) (by rfl) (fun W h1 h2 => by go_simp)) (poA { x with p10 := 4, p13 := (u.r : Nat), p14 := (u.c : Nat), p15 := (u.b : Nat), p16 := (u.p : Nat) }) (by kernel_rfl) (py (h := ?_))
     intro w5 K5
     refine wpList_nil ?_
     go_upto_region 4 with fail
     refine lz (wz1 (.bool true) (h := nz ?_))
     go_upto_region 5 with fail
     refine rk (fun (_ : Unit) => [.agg (vcA v), pT b1 12, undef, pT b1 13, undef, pT b1 17, undef, pT b1 18, undef, pT b1 9, undef]) (fun _ Lx w' => Kb w [(b1, poA { x with p9 := (bif Lx 10 then false else x.p9), p10 := 4, p12 := (bif Lx 2 then 1 else x.p12), p13 := (bif Lx 4 then (v.r : Nat) else (u.r : Nat)), p14 := (bif Lx 4 then (v.c : Nat) else (u.c : Nat)), p15 := (bif Lx 4 then (v.b : Nat) else (u.b : Nat)), p16 := (bif Lx 4 then (v.p : Nat) else (u.p : Nat)), p17 := (bif Lx 6 then 0 else x.p17), p18 := (bif Lx 8 then 0 else x.p18) }, 73), (b2, vcA v, 71), (b3, cfA c, 31), (b4, nil21, 73)] w') (()) [] [] [(0, fun _ => [(4, pT b2 0)]), (2, fun _ => [(28, pT b1 12)]), (4, fun _ => [(27, .agg (vcA v)), (29, pT b1 13)]), (6, fun _ => [(30, pT b1 17)]), (8, fun _ => [(31, pT b1 18)]), (10, fun _ => [(32, pT b1 9)])] [2, 4, 6, 8, 10] (K5.out.drew) (fun _ _ _ _ => trivial) (fun _ L1 L2 _ e h => by (try dsimp only at h ⊢); rw [← e 2 (by decide), ← e 4 (by decide), ← e 6 (by decide), ← e 8 (by decide), ← e 10 (by decide)]; exact h) ?_ ?_
     ·
      refine ⟨?_, ?_, ?_, ?_, ?_, ?_, trivial⟩ <;> (rintro _ Lx w' hw hL haft hdc ρ hc hf hG hs o ho; cases ho; try dsimp only [pT, iV, seen] at hw hs)
      ·
       obtain ⟨e4, _⟩ := hs
       exact sq (.agg (vcA v)) (l_var 71 _ rfl _ e4 _ _ _ (Kb.at (i := 1) hw rfl) Tryd.underlying71 rfl (sizeV))
      ·
       obtain ⟨e28, _⟩ := hs
       exact ss 3 _ _ rfl ⟨b1, 12, none⟩ (iV 1) e28 (hc _) (kb_run_set hw (i := 0) rfl 3 12 (iV (bif Lx 2 then 1 else x.p12)) (iV 1) (by rfl) (fun W h1 h2 => by go_simp)) ⟨(), fun _ _ => rfl, rfl, cast_blk (Kb.set (i := 0) hw rfl 12 (iV 1)) (by rfl)⟩
      ·
       obtain ⟨e27, e29, _⟩ := hs
       exact sm 71 _ _ rfl b1 13 (vcA v) e29 e27 ((Kb.at (i := 0) hw rfl).thereN 13 4 (Nat.le_of_ble_eq_true (by kernel_rfl))) (sizeV) (by kernel_rfl) ⟨(), fun _ _ => rfl, rfl, cast_blk (Kb.mid (i := 0) hw rfl 13 (vcA v).toList) (by rfl)⟩
      ·
       obtain ⟨e30, _⟩ := hs
       exact ss 3 _ _ rfl ⟨b1, 17, none⟩ (iV 0) e30 (hc _) (kb_run_set hw (i := 0) rfl 3 17 (iV (bif Lx 6 then 0 else x.p17)) (iV 0) (by rfl) (fun W h1 h2 => by go_simp)) ⟨(), fun _ _ => rfl, rfl, cast_blk (Kb.set (i := 0) hw rfl 17 (iV 0)) (by rfl)⟩
      ·
       obtain ⟨e31, _⟩ := hs
       exact ss 3 _ _ rfl ⟨b1, 18, none⟩ (iV 0) e31 (hc _) (kb_run_set hw (i := 0) rfl 3 18 (iV (bif Lx 8 then 0 else x.p18)) (iV 0) (by rfl) (fun W h1 h2 => by go_simp)) ⟨(), fun _ _ => rfl, rfl, cast_blk (Kb.set (i := 0) hw rfl 18 (iV 0)) (by rfl)⟩
      ·
       obtain ⟨e32, _⟩ := hs
       exact ss 4 _ _ rfl ⟨b1, 9, none⟩ (.bool false) e32 (hc _) (kb_run_set hw (i := 0) rfl 4 9 (.bool (bif Lx 10 then false else x.p9)) (.bool false) (by rfl) (fun W h1 h2 => by go_simp)) ⟨(), fun _ _ => rfl, rfl, cast_blk (Kb.set (i := 0) hw rfl 9 (.bool false)) (by rfl)⟩
     intro _ Lx w6 hw hall
     try dsimp only at hw
     simp only [pT, iV, List.toList_toArray, putsZ_some, putsZ_none, putsZ_nil, List.setIfInBounds_toArray, List.set_cons_zero, List.set_cons_succ]
     have hL2 := hall 2 (by decide)
     have hL4 := hall 4 (by decide)
     have hL6 := hall 6 (by decide)
     have hL8 := hall 8 (by decide)
     have hL10 := hall 10 (by decide)
     simp only [hL2, hL4, hL6, hL8, hL10, cond_true] at hw
     have K6 := Lib.hid hw
     clear hw hall hL2 hL4 hL6 hL8 hL10
     go_upto_region 6 with fail
     refine lz (wz1 (.bool false) (h := nz ?_))
     go_upto_region 8 with fail
     refine lz (wz1 (.agg (poA { x with p9 := false, p10 := 4, p12 := 1, p13 := (v.r : Nat), p14 := (v.c : Nat), p15 := (v.b : Nat), p16 := (v.p : Nat), p17 := 0, p18 := 0 })) (h1 := by exact kb_all K6.out 0 rfl 73 _ rfl rfl Tryd.underlying73 rfl (size50)) (h := ?_))
     refine kb_call K6.out 67 #[.agg (poA { x with p9 := false, p10 := 4, p12 := 1, p13 := (v.r : Nat), p14 := (v.c : Nat), p15 := (v.b : Nat), p16 := (v.p : Nat), p17 := 0, p18 := 0 })] (.bool true) (by rfl) (by go_simp) (edge_is { x with p9 := false, p10 := 4, p12 := 1, p13 := (v.r : Nat), p14 := (v.c : Nat), p15 := (v.b : Nat), p16 := (v.p : Nat), p17 := 0, p18 := 0 } true HED.out w6) (py (h := ?_))
     intro w7 K7
     refine wpList_nil ?_
     go_upto_region 9 with fail
     refine lz (wz1 (pT b1 11) (h := ?_))
     refine kb_set K7.out 0 rfl 3 _ _ 11 (.int .i64 2) rfl (by rfl) rfl rfl (kb_run_set K7.out (i := 0) rfl 3 11 (.int .i64 x.p11) (.int .i64 2) (by rfl) (fun W h1 h2 => by go_simp)) (poA ⟨x.p0, x.p1, x.p2, x.p3, x.p4, x.p5, x.p6, x.p7, x.p8, false, 4, 2, 1, (v.r : Nat), (v.c : Nat), (v.b : Nat), (v.p : Nat), 0, 0, x.p19, x.p20⟩) (by kernel_rfl) (py (h := ?_))
     intro w8 K8
     refine wz1 (pT b1 19) (h := ?_)
     refine kb_set K8.out 0 rfl 3 _ _ 19 (.int .i64 0) rfl (by rfl) rfl rfl (kb_run_set K8.out (i := 0) rfl 3 19 (.int .i64 x.p19) (.int .i64 0) (by rfl) (fun W h1 h2 => by go_simp)) (poA ⟨x.p0, x.p1, x.p2, x.p3, x.p4, x.p5, x.p6, x.p7, x.p8, false, 4, 2, 1, (v.r : Nat), (v.c : Nat), (v.b : Nat), (v.p : Nat), 0, 0, 0, x.p20⟩) (by kernel_rfl) (py (h := ?_))
     intro w9 K9
     refine wpList_nil ?_
     go_upto_region 10 with fail
     refine lz (wz2 (.agg (poA ⟨x.p0, x.p1, x.p2, x.p3, x.p4, x.p5, x.p6, x.p7, x.p8, false, 4, 2, 1, (v.r : Nat), (v.c : Nat), (v.b : Nat), (v.p : Nat), 0, 0, 0, x.p20⟩)) (.bool true) (h1 := by exact kb_all K9.out 0 rfl 73 _ rfl rfl Tryd.underlying73 rfl (size50)) (h := ?_))
     refine kb_row K9.out 3 rfl 73 _ _ (poA ⟨x.p0, x.p1, x.p2, x.p3, x.p4, x.p5, x.p6, x.p7, x.p8, false, 4, 2, 1, (v.r : Nat), (v.c : Nat), (v.b : Nat), (v.p : Nat), 0, 0, 0, x.p20⟩) rfl rfl rfl rfl (size50) (by rfl) (po_all _) (py (h := ?_))
     intro w10 K10
     refine wz1 (.bool true) (h := nz ?_)
     go_wp2_with fail
     refine bodyPost_ret (v := .tuple #[.agg (poA ⟨x.p0, x.p1, x.p2, x.p3, x.p4, x.p5, x.p6, x.p7, x.p8, false, 4, 2, 1, (v.r : Nat), (v.c : Nat), (v.b : Nat), (v.p : Nat), 0, 0, 0, x.p20⟩), .bool true]) (results_row_tmp Tryd.results73 _ _ b4 73 (poA ⟨x.p0, x.p1, x.p2, x.p3, x.p4, x.p5, x.p6, x.p7, x.p8, false, 4, 2, 1, (v.r : Nat), (v.c : Nat), (v.b : Nat), (v.p : Nat), 0, 0, 0, x.p20⟩) (.bool true) _ rfl rfl (K10.out.at (i := 3) rfl) Tryd.underlying73 rfl (po_info _)) rfl ?_
     exact ⟨rfl, K10.out.below⟩
   case true =>
    cases hed : edgeB x
    case false =>
     have hB : desB x u v = false := by simp [desB, hr, hi, he]
     have hP : desP x u v c.p3 = { x with p10 := 4, p13 := (u.r : Nat), p14 := (u.c : Nat), p15 := (u.b : Nat), p16 := (u.p : Nat) } := by simp [desP, desV, hB, hed, hr]
     rw [hP, hB]
     unfold poU
     have HED := Lib.hid hed
     clear hP hB hed
     have K := Lib.hid (Kb.nil w)
     go_enter Tryd.func73, Tryd.ntmps73
     go_upto_region 0 with fail
     refine wp_region_lit ?_
     refine kb_box K.out 73 (.tmp 0) (poA { x with p13 := (u.r : Nat), p14 := (u.c : Nat), p15 := (u.b : Nat), p16 := (u.p : Nat) }) rfl rfl (by rfl) (pz (h := ?_))
     intro b1 w1 K1
     refine kb_box K1.out 71 (.tmp 1) (vcA v) rfl rfl (by rfl) (pz (h := ?_))
     intro b2 w2 K2
     refine kb_box K2.out 31 (.tmp 2) (cfA c) rfl rfl (by rfl) (pz (h := ?_))
     intro b3 w3 K3
     refine kb_alloc K3.out 73 (nil21) rfl z50 (by rfl) (pz (h := ?_))
     intro b4 w4 K4
     refine wz1 (.bool false) (h := nz ?_)
     go_upto_region 1 with fail
     refine lz (wz4 (pT b1 10) (iV x.p10) (.bool false) (.bool false) (h2 := by have q : w4.cell? ⟨b1, 10, none⟩ = some (iV x.p10) := K4.out.cell (i := 0) rfl (by rfl); go_simp) (h3 := by have q := hr; go_simp) (h := nz ?_))
     go_upto_region 2 with fail
     refine lz (wz6 (.bool false) (.bool false) (pT b1 12) (iV x.p12) (.bool false) (.bool false) (h4 := by have q : w4.cell? ⟨b1, 12, none⟩ = some (iV x.p12) := K4.out.cell (i := 0) rfl (by rfl); go_simp) (h5 := by have q := hi; go_simp) (h6 := by exact run_pick_no (.tmp 14) (.const (.bool true)) (.tmp 17) _ rfl rfl rfl) (h := wz6 (.bool false) (pT b1 13) (.agg (#[.int .u64 (u.r : Nat), .int .u32 (u.c : Nat), .int .u64 (u.b : Nat), .int .u16 (u.p : Nat)])) (.agg (vcA v)) (.bool false) (.bool false) (h3 := by exact kb_prt K4.out 0 rfl 71 _ 13 rfl rfl (part_of (by kernel_rfl)) Tryd.underlying71 rfl (sizeV)) (h4 := by exact kb_all K4.out 1 rfl 71 _ rfl rfl Tryd.underlying71 rfl (sizeV)) (h5 := by have q := CE.out; rw [he] at q; go_simp) (h6 := by exact run_pick_no (.tmp 19) (.const (.bool true)) (.tmp 23) _ rfl rfl rfl) (h := wz1 (.bool false) (h := nz ?_))))
     go_upto_region 3 with fail
     refine lz (wz1 (pT b1 10) (h := ?_))
     refine kb_set K4.out 0 rfl 3 _ _ 10 (.int .i64 4) rfl (by rfl) rfl rfl (kb_run_set K4.out (i := 0) rfl 3 10 (.int .i64 x.p10) (.int .i64 4) (by rfl) (fun W h1 h2 => by go_simp)) (poA { x with p10 := 4, p13 := (u.r : Nat), p14 := (u.c : Nat), p15 := (u.b : Nat), p16 := (u.p : Nat) }) (by kernel_rfl) (py (h := ?_))
     intro w5 K5
     refine wpList_nil ?_
     go_upto_region 4 with fail
     refine lz (wz1 (.bool false) (h := nz ?_))
     go_upto_region 6 with fail
     refine lz (wz1 (.bool false) (h := nz ?_))
     go_upto_region 8 with fail
     refine lz (wz1 (.agg (poA { x with p10 := 4, p13 := (u.r : Nat), p14 := (u.c : Nat), p15 := (u.b : Nat), p16 := (u.p : Nat) })) (h1 := by exact kb_all K5.out 0 rfl 73 _ rfl rfl Tryd.underlying73 rfl (size50)) (h := ?_))
     refine kb_call K5.out 67 #[.agg (poA { x with p10 := 4, p13 := (u.r : Nat), p14 := (u.c : Nat), p15 := (u.b : Nat), p16 := (u.p : Nat) })] (.bool false) (by rfl) (by go_simp) (edge_is { x with p10 := 4, p13 := (u.r : Nat), p14 := (u.c : Nat), p15 := (u.b : Nat), p16 := (u.p : Nat) } false HED.out w5) (py (h := ?_))
     intro w6 K6
     refine wpList_nil ?_
     go_upto_region 10 with fail
     refine lz (wz2 (.agg (poA { x with p10 := 4, p13 := (u.r : Nat), p14 := (u.c : Nat), p15 := (u.b : Nat), p16 := (u.p : Nat) })) (.bool false) (h1 := by exact kb_all K6.out 0 rfl 73 _ rfl rfl Tryd.underlying73 rfl (size50)) (h := ?_))
     refine kb_row K6.out 3 rfl 73 _ _ (poA { x with p10 := 4, p13 := (u.r : Nat), p14 := (u.c : Nat), p15 := (u.b : Nat), p16 := (u.p : Nat) }) rfl rfl rfl rfl (size50) (by rfl) (po_all _) (py (h := ?_))
     intro w7 K7
     refine wz1 (.bool false) (h := nz ?_)
     go_wp2_with fail
     refine bodyPost_ret (v := .tuple #[.agg (poA { x with p10 := 4, p13 := (u.r : Nat), p14 := (u.c : Nat), p15 := (u.b : Nat), p16 := (u.p : Nat) }), .bool false]) (results_row_tmp Tryd.results73 _ _ b4 73 (poA { x with p10 := 4, p13 := (u.r : Nat), p14 := (u.c : Nat), p15 := (u.b : Nat), p16 := (u.p : Nat) }) (.bool false) _ rfl rfl (K7.out.at (i := 3) rfl) Tryd.underlying73 rfl (po_info _)) rfl ?_
     exact ⟨rfl, K7.out.below⟩
    case true =>
     have hB : desB x u v = false := by simp [desB, hr, hi, he]
     have hP : desP x u v c.p3 = { x with p10 := 4, p11 := 2, p13 := (u.r : Nat), p14 := (u.c : Nat), p15 := (u.b : Nat), p16 := (u.p : Nat), p19 := 0 } := by simp [desP, desV, hB, hed, hr]
     rw [hP, hB]
     unfold poU
     have HED := Lib.hid hed
     clear hP hB hed
     have K := Lib.hid (Kb.nil w)
     go_enter Tryd.func73, Tryd.ntmps73
     go_upto_region 0 with fail
     refine wp_region_lit ?_
     refine kb_box K.out 73 (.tmp 0) (poA { x with p13 := (u.r : Nat), p14 := (u.c : Nat), p15 := (u.b : Nat), p16 := (u.p : Nat) }) rfl rfl (by rfl) (pz (h := ?_))
     intro b1 w1 K1
     refine kb_box K1.out 71 (.tmp 1) (vcA v) rfl rfl (by rfl) (pz (h := ?_))
     intro b2 w2 K2
     refine kb_box K2.out 31 (.tmp 2) (cfA c) rfl rfl (by rfl) (pz (h := ?_))
     intro b3 w3 K3
     refine kb_alloc K3.out 73 (nil21) rfl z50 (by rfl) (pz (h := ?_))
     intro b4 w4 K4
     refine wz1 (.bool false) (h := nz ?_)
     go_upto_region 1 with fail
     refine lz (wz4 (pT b1 10) (iV x.p10) (.bool false) (.bool false) (h2 := by have q : w4.cell? ⟨b1, 10, none⟩ = some (iV x.p10) := K4.out.cell (i := 0) rfl (by rfl); go_simp) (h3 := by have q := hr; go_simp) (h := nz ?_))
     go_upto_region 2 with fail
     refine lz (wz6 (.bool false) (.bool false) (pT b1 12) (iV x.p12) (.bool false) (.bool false) (h4 := by have q : w4.cell? ⟨b1, 12, none⟩ = some (iV x.p12) := K4.out.cell (i := 0) rfl (by rfl); go_simp) (h5 := by have q := hi; go_simp) (h6 := by exact run_pick_no (.tmp 14) (.const (.bool true)) (.tmp 17) _ rfl rfl rfl) (h := wz6 (.bool false) (pT b1 13) (.agg (#[.int .u64 (u.r : Nat), .int .u32 (u.c : Nat), .int .u64 (u.b : Nat), .int .u16 (u.p : Nat)])) (.agg (vcA v)) (.bool false) (.bool false) (h3 := by exact kb_prt K4.out 0 rfl 71 _ 13 rfl rfl (part_of (by kernel_rfl)) Tryd.underlying71 rfl (sizeV)) (h4 := by exact kb_all K4.out 1 rfl 71 _ rfl rfl Tryd.underlying71 rfl (sizeV)) (h5 := by have q := CE.out; rw [he] at q; go_simp) (h6 := by exact run_pick_no (.tmp 19) (.const (.bool true)) (.tmp 23) _ rfl rfl rfl) (h := wz1 (.bool false) (h := nz ?_))))
     go_upto_region 3 with fail
     refine lz (wz1 (pT b1 10) (h := ?_))
     refine kb_set K4.out 0 rfl 3 _ _ 10 (.int .i64 4) rfl (by rfl) rfl rfl (kb_run_set K4.out (i := 0) rfl 3 10 (.int .i64 x.p10) (.int .i64 4) (by rfl) (fun W h1 h2 => by go_simp)) (poA { x with p10 := 4, p13 := (u.r : Nat), p14 := (u.c : Nat), p15 := (u.b : Nat), p16 := (u.p : Nat) }) (by kernel_rfl) (py (h := ?_))
     intro w5 K5
     refine wpList_nil ?_
     go_upto_region 4 with fail
     refine lz (wz1 (.bool false) (h := nz ?_))
     go_upto_region 6 with fail
     refine lz (wz1 (.bool false) (h := nz ?_))
     go_upto_region 8 with fail
     refine lz (wz1 (.agg (poA { x with p10 := 4, p13 := (u.r : Nat), p14 := (u.c : Nat), p15 := (u.b : Nat), p16 := (u.p : Nat) })) (h1 := by exact kb_all K5.out 0 rfl 73 _ rfl rfl Tryd.underlying73 rfl (size50)) (h := ?_))
     refine kb_call K5.out 67 #[.agg (poA { x with p10 := 4, p13 := (u.r : Nat), p14 := (u.c : Nat), p15 := (u.b : Nat), p16 := (u.p : Nat) })] (.bool true) (by rfl) (by go_simp) (edge_is { x with p10 := 4, p13 := (u.r : Nat), p14 := (u.c : Nat), p15 := (u.b : Nat), p16 := (u.p : Nat) } true HED.out w5) (py (h := ?_))
     intro w6 K6
     refine wpList_nil ?_
     go_upto_region 9 with fail
     refine lz (wz1 (pT b1 11) (h := ?_))
     refine kb_set K6.out 0 rfl 3 _ _ 11 (.int .i64 2) rfl (by rfl) rfl rfl (kb_run_set K6.out (i := 0) rfl 3 11 (.int .i64 x.p11) (.int .i64 2) (by rfl) (fun W h1 h2 => by go_simp)) (poA { x with p10 := 4, p11 := 2, p13 := (u.r : Nat), p14 := (u.c : Nat), p15 := (u.b : Nat), p16 := (u.p : Nat) }) (by kernel_rfl) (py (h := ?_))
     intro w7 K7
     refine wz1 (pT b1 19) (h := ?_)
     refine kb_set K7.out 0 rfl 3 _ _ 19 (.int .i64 0) rfl (by rfl) rfl rfl (kb_run_set K7.out (i := 0) rfl 3 19 (.int .i64 x.p19) (.int .i64 0) (by rfl) (fun W h1 h2 => by go_simp)) (poA { x with p10 := 4, p11 := 2, p13 := (u.r : Nat), p14 := (u.c : Nat), p15 := (u.b : Nat), p16 := (u.p : Nat), p19 := 0 }) (by kernel_rfl) (py (h := ?_))
     intro w8 K8
     refine wpList_nil ?_
     go_upto_region 10 with fail
     refine lz (wz2 (.agg (poA { x with p10 := 4, p11 := 2, p13 := (u.r : Nat), p14 := (u.c : Nat), p15 := (u.b : Nat), p16 := (u.p : Nat), p19 := 0 })) (.bool false) (h1 := by exact kb_all K8.out 0 rfl 73 _ rfl rfl Tryd.underlying73 rfl (size50)) (h := ?_))
     refine kb_row K8.out 3 rfl 73 _ _ (poA { x with p10 := 4, p11 := 2, p13 := (u.r : Nat), p14 := (u.c : Nat), p15 := (u.b : Nat), p16 := (u.p : Nat), p19 := 0 }) rfl rfl rfl rfl (size50) (by rfl) (po_all _) (py (h := ?_))
     intro w9 K9
     refine wz1 (.bool false) (h := nz ?_)
     go_wp2_with fail
     refine bodyPost_ret (v := .tuple #[.agg (poA { x with p10 := 4, p11 := 2, p13 := (u.r : Nat), p14 := (u.c : Nat), p15 := (u.b : Nat), p16 := (u.p : Nat), p19 := 0 }), .bool false]) (results_row_tmp Tryd.results73 _ _ b4 73 (poA { x with p10 := 4, p11 := 2, p13 := (u.r : Nat), p14 := (u.c : Nat), p15 := (u.b : Nat), p16 := (u.p : Nat), p19 := 0 }) (.bool false) _ rfl rfl (K9.out.at (i := 3) rfl) Tryd.underlying73 rfl (po_info _)) rfl ?_
     exact ⟨rfl, K9.out.below⟩
end
end Go.Proofs.YteeinlbhcdpnnaaDoor
