import Derived.Test.YteeinlbhcdpnnaaDoorG4
import Derived.Test.YteeinlbhcdpnnaaDoorG17
import Derived.Test.YteeinlbhcdpnnaaDoorG1
set_option linter.unusedSimpArgs false
set_option linter.unusedVariables false
namespace Go.Proofs.YteeinlbhcdpnnaaDoor
section
open Go.RowKit
attribute [local irreducible] wpQuiet wpList
def hearT (x : Po) (v : Vc) (age : Int) (c : Cf) : Po := { x with p12 := 2, p13 := (v.r : Nat), p14 := (v.c : Nat), p15 := (v.b : Nat), p16 := (v.p : Nat), p17 := age, p18 := (IntKind.i64.wrap (3 * c.p2)) }
def hearOld (x : Po) (age : Int) (c : Cf) : Bool := !onP x || (decide (age < 0) || decide (c.p1 ≤ age))
def hearP (x : Po) (u v : Vc) (age : Int) (c : Cf) : Po := if hearOld x age c then poU x u else if takesB x u v then hearT x v age c else poU x u
def hearN (x : Po) (u v : Vc) (age : Int) (c : Cf) : Int := if hearOld x age c then 0 else if takesB x u v then (if decide (x.p12 = 2) && eqV u v then 2 else 3) else 1
set_option maxRecDepth 100000 in
set_option maxHeartbeats 8000000 in
theorem hear_any (x : Po) (u v : Vc) (age : Int) (c : Cf) (w : World) : Calls Tryd.prog 47 #[poV (poU x u), vcV v, .int .i64 age, cfV c] w fun e w' => e = .returned (.tuple #[poV (hearP x u v age c), .int .i64 (hearN x u v age c)]) ∧ Below w.heap.size w w' := by
 have CO := Lib.hid (fun b (h : onP x = b) w => on_is (poU x u) b h w)
 have CT := Lib.hid (fun w => takes_any x u v w)
 have CE := Lib.hid (fun w => equal_vc u v w)
 unfold poU at CO CT
 cases hon : onP x
 case false =>
  have hO : hearOld x age c = true := by simp [hearOld, hon]
  have hP : hearP x u v age c = poU x u := by unfold hearP; rw [hO]; rfl
  have hN : hearN x u v age c = 0 := by unfold hearN; rw [hO]; rfl
  rw [hP, hN]
  clear hP hN
  unfold poU
  have K := Lib.hid (Kb.nil w)
  go_enter Tryd.func47, Tryd.ntmps47
  go_upto_region 0 with fail
  refine wp_region_lit ?_
  refine kb_box K.out 73 (.tmp 0) (poA { x with p13 := (u.r : Nat), p14 := (u.c : Nat), p15 := (u.b : Nat), p16 := (u.p : Nat) }) rfl rfl (by rfl) (pz (h := ?_))
  intro b1 w1 K1
  refine kb_box K1.out 71 (.tmp 1) (vcA v) rfl rfl (by rfl) (pz (h := ?_))
  intro b2 w2 K2
  refine kb_box K2.out 31 (.tmp 3) (cfA c) rfl rfl (by rfl) (pz (h := ?_))
  intro b3 w3 K3
  refine kb_alloc K3.out 73 (nil21) rfl z50 (by rfl) (pz (h := ?_))
  intro b4 w4 K4
  refine wz1 (iV 0) (h := nz ?_)
  go_upto_region 1 with fail
  refine lz (wz1 (.agg (poA { x with p13 := (u.r : Nat), p14 := (u.c : Nat), p15 := (u.b : Nat), p16 := (u.p : Nat) })) (h1 := by exact kb_all K4.out 0 rfl 73 _ rfl rfl Tryd.underlying73 rfl (size50)) (h := ?_))
  refine kb_call K4.out 20 #[.agg (poA { x with p13 := (u.r : Nat), p14 := (u.c : Nat), p15 := (u.b : Nat), p16 := (u.p : Nat) })] (.bool false) (by rfl) (by go_simp) (CO.out false hon w4) (py (h := ?_))
  intro w5 K5
  refine wz2 (.bool true) (.bool true) (h := wk (h := wk (h := wz2 (.bool true) (.bool true) (h1 := by exact run_pick_yes (.tmp 15) (.const (.bool true)) (.tmp 17) _ rfl rfl rfl) (h := wk (h := wk (h := wk (h := wk (h := wz2 (.bool true) (.bool true) (h1 := by exact run_pick_yes (.tmp 19) (.const (.bool true)) (.tmp 23) _ rfl rfl rfl) (h := nz ?_)))))))))
  go_upto_region 2 with fail
  refine lz (wz1 (.agg (poA { x with p13 := (u.r : Nat), p14 := (u.c : Nat), p15 := (u.b : Nat), p16 := (u.p : Nat) })) (h1 := by exact kb_all K5.out 0 rfl 73 _ rfl rfl Tryd.underlying73 rfl (size50)) (h := ?_))
  refine kb_row K5.out 3 rfl 73 _ _ (poA { x with p13 := (u.r : Nat), p14 := (u.c : Nat), p15 := (u.b : Nat), p16 := (u.p : Nat) }) rfl rfl rfl rfl (size50) (by rfl) (po_all _) (py (h := ?_))
  intro w6 K6
  refine wz1 (iV 0) (h := nz ?_)
  go_wp2_with fail
  refine bodyPost_ret (v := .tuple #[.agg (poA { x with p13 := (u.r : Nat), p14 := (u.c : Nat), p15 := (u.b : Nat), p16 := (u.p : Nat) }), .int .i64 0]) (results_row_tmp Tryd.results47 _ _ b4 73 (poA { x with p13 := (u.r : Nat), p14 := (u.c : Nat), p15 := (u.b : Nat), p16 := (u.p : Nat) }) (.int .i64 0) _ rfl rfl (K6.out.at (i := 3) rfl) Tryd.underlying73 rfl (po_info _)) rfl ?_
  exact ⟨rfl, K6.out.below⟩
 case true =>
  by_cases ha : age < 0
  case pos =>
   have hO : hearOld x age c = true := by simp [hearOld, ha]
   have hP : hearP x u v age c = poU x u := by unfold hearP; rw [hO]; rfl
   have hN : hearN x u v age c = 0 := by unfold hearN; rw [hO]; rfl
   rw [hP, hN]
   clear hP hN
   unfold poU
   have K := Lib.hid (Kb.nil w)
   go_enter Tryd.func47, Tryd.ntmps47
   go_upto_region 0 with fail
   refine wp_region_lit ?_
   refine kb_box K.out 73 (.tmp 0) (poA { x with p13 := (u.r : Nat), p14 := (u.c : Nat), p15 := (u.b : Nat), p16 := (u.p : Nat) }) rfl rfl (by rfl) (pz (h := ?_))
   intro b1 w1 K1
   refine kb_box K1.out 71 (.tmp 1) (vcA v) rfl rfl (by rfl) (pz (h := ?_))
   intro b2 w2 K2
   refine kb_box K2.out 31 (.tmp 3) (cfA c) rfl rfl (by rfl) (pz (h := ?_))
   intro b3 w3 K3
   refine kb_alloc K3.out 73 (nil21) rfl z50 (by rfl) (pz (h := ?_))
   intro b4 w4 K4
   refine wz1 (iV 0) (h := nz ?_)
   go_upto_region 1 with fail
   refine lz (wz1 (.agg (poA { x with p13 := (u.r : Nat), p14 := (u.c : Nat), p15 := (u.b : Nat), p16 := (u.p : Nat) })) (h1 := by exact kb_all K4.out 0 rfl 73 _ rfl rfl Tryd.underlying73 rfl (size50)) (h := ?_))
   refine kb_call K4.out 20 #[.agg (poA { x with p13 := (u.r : Nat), p14 := (u.c : Nat), p15 := (u.b : Nat), p16 := (u.p : Nat) })] (.bool true) (by rfl) (by go_simp) (CO.out true hon w4) (py (h := ?_))
   intro w5 K5
   refine wz6 (.bool false) (.bool false) (iV age) (.bool true) (.bool true) (.bool true) (h4 := by have q := ha; go_simp) (h5 := by exact run_pick_no (.tmp 15) (.const (.bool true)) (.tmp 17) _ rfl rfl rfl) (h := wk (h := wk (h := wk (h := wk (h := wz2 (.bool true) (.bool true) (h1 := by exact run_pick_yes (.tmp 19) (.const (.bool true)) (.tmp 23) _ rfl rfl rfl) (h := nz ?_))))))
   go_upto_region 2 with fail
   refine lz (wz1 (.agg (poA { x with p13 := (u.r : Nat), p14 := (u.c : Nat), p15 := (u.b : Nat), p16 := (u.p : Nat) })) (h1 := by exact kb_all K5.out 0 rfl 73 _ rfl rfl Tryd.underlying73 rfl (size50)) (h := ?_))
   refine kb_row K5.out 3 rfl 73 _ _ (poA { x with p13 := (u.r : Nat), p14 := (u.c : Nat), p15 := (u.b : Nat), p16 := (u.p : Nat) }) rfl rfl rfl rfl (size50) (by rfl) (po_all _) (py (h := ?_))
   intro w6 K6
   refine wz1 (iV 0) (h := nz ?_)
   go_wp2_with fail
   refine bodyPost_ret (v := .tuple #[.agg (poA { x with p13 := (u.r : Nat), p14 := (u.c : Nat), p15 := (u.b : Nat), p16 := (u.p : Nat) }), .int .i64 0]) (results_row_tmp Tryd.results47 _ _ b4 73 (poA { x with p13 := (u.r : Nat), p14 := (u.c : Nat), p15 := (u.b : Nat), p16 := (u.p : Nat) }) (.int .i64 0) _ rfl rfl (K6.out.at (i := 3) rfl) Tryd.underlying73 rfl (po_info _)) rfl ?_
   exact ⟨rfl, K6.out.below⟩
  case neg =>
   by_cases hm : c.p1 ≤ age
   case pos =>
    have hO : hearOld x age c = true := by simp [hearOld, hm]
    have hP : hearP x u v age c = poU x u := by unfold hearP; rw [hO]; rfl
    have hN : hearN x u v age c = 0 := by unfold hearN; rw [hO]; rfl
    rw [hP, hN]
    clear hP hN
    unfold poU
    have K := Lib.hid (Kb.nil w)
    go_enter Tryd.func47, Tryd.ntmps47
    go_upto_region 0 with fail
    refine wp_region_lit ?_
    refine kb_box K.out 73 (.tmp 0) (poA { x with p13 := (u.r : Nat), p14 := (u.c : Nat), p15 := (u.b : Nat), p16 := (u.p : Nat) }) rfl rfl (by rfl) (pz (h := ?_))
    intro b1 w1 K1
    refine kb_box K1.out 71 (.tmp 1) (vcA v) rfl rfl (by rfl) (pz (h := ?_))
    intro b2 w2 K2
    refine kb_box K2.out 31 (.tmp 3) (cfA c) rfl rfl (by rfl) (pz (h := ?_))
    intro b3 w3 K3
    refine kb_alloc K3.out 73 (nil21) rfl z50 (by rfl) (pz (h := ?_))
    intro b4 w4 K4
    refine wz1 (iV 0) (h := nz ?_)
    go_upto_region 1 with fail
    refine lz (wz1 (.agg (poA { x with p13 := (u.r : Nat), p14 := (u.c : Nat), p15 := (u.b : Nat), p16 := (u.p : Nat) })) (h1 := by exact kb_all K4.out 0 rfl 73 _ rfl rfl Tryd.underlying73 rfl (size50)) (h := ?_))
    refine kb_call K4.out 20 #[.agg (poA { x with p13 := (u.r : Nat), p14 := (u.c : Nat), p15 := (u.b : Nat), p16 := (u.p : Nat) })] (.bool true) (by rfl) (by go_simp) (CO.out true hon w4) (py (h := ?_))
    intro w5 K5
    refine wz6 (.bool false) (.bool false) (iV age) (.bool false) (.bool false) (.bool false) (h4 := by have q := ha; go_simp) (h5 := by exact run_pick_no (.tmp 15) (.const (.bool true)) (.tmp 17) _ rfl rfl rfl) (h := wz6 (iV age) (pT b3 1) (iV c.p1) (.bool true) (.bool true) (.bool true) (h3 := by have q : w5.cell? ⟨b3, 1, none⟩ = some (iV c.p1) := K5.out.cell (i := 2) rfl (by rfl); go_simp) (h4 := by have q := hm; go_simp) (h5 := by exact run_pick_no (.tmp 19) (.const (.bool true)) (.tmp 23) _ rfl rfl rfl) (h := nz ?_))
    go_upto_region 2 with fail
    refine lz (wz1 (.agg (poA { x with p13 := (u.r : Nat), p14 := (u.c : Nat), p15 := (u.b : Nat), p16 := (u.p : Nat) })) (h1 := by exact kb_all K5.out 0 rfl 73 _ rfl rfl Tryd.underlying73 rfl (size50)) (h := ?_))
    refine kb_row K5.out 3 rfl 73 _ _ (poA { x with p13 := (u.r : Nat), p14 := (u.c : Nat), p15 := (u.b : Nat), p16 := (u.p : Nat) }) rfl rfl rfl rfl (size50) (by rfl) (po_all _) (py (h := ?_))
    intro w6 K6
    refine wz1 (iV 0) (h := nz ?_)
    go_wp2_with fail
    refine bodyPost_ret (v := .tuple #[.agg (poA { x with p13 := (u.r : Nat), p14 := (u.c : Nat), p15 := (u.b : Nat), p16 := (u.p : Nat) }), .int .i64 0]) (results_row_tmp Tryd.results47 _ _ b4 73 (poA { x with p13 := (u.r : Nat), p14 := (u.c : Nat), p15 := (u.b : Nat), p16 := (u.p : Nat) }) (.int .i64 0) _ rfl rfl (K6.out.at (i := 3) rfl) Tryd.underlying73 rfl (po_info _)) rfl ?_
    exact ⟨rfl, K6.out.below⟩
   case neg =>
    have hO : hearOld x age c = false := by simp [hearOld, hon, ha, hm]
    cases ht : takesB x u v
    case false =>
     have hP : hearP x u v age c = poU x u := by unfold hearP; rw [hO, ht]; rfl
     have hN : hearN x u v age c = 1 := by unfold hearN; rw [hO, ht]; rfl
     rw [hP, hN]
     clear hP hN
     unfold poU
     have K := Lib.hid (Kb.nil w)
     go_enter Tryd.func47, Tryd.ntmps47
     go_upto_region 0 with fail
     refine wp_region_lit ?_
     refine kb_box K.out 73 (.tmp 0) (poA { x with p13 := (u.r : Nat), p14 := (u.c : Nat), p15 := (u.b : Nat), p16 := (u.p : Nat) }) rfl rfl (by rfl) (pz (h := ?_))
     intro b1 w1 K1
     refine kb_box K1.out 71 (.tmp 1) (vcA v) rfl rfl (by rfl) (pz (h := ?_))
     intro b2 w2 K2
     refine kb_box K2.out 31 (.tmp 3) (cfA c) rfl rfl (by rfl) (pz (h := ?_))
     intro b3 w3 K3
     refine kb_alloc K3.out 73 (nil21) rfl z50 (by rfl) (pz (h := ?_))
     intro b4 w4 K4
     refine wz1 (iV 0) (h := nz ?_)
     go_upto_region 1 with fail
     refine lz (wz1 (.agg (poA { x with p13 := (u.r : Nat), p14 := (u.c : Nat), p15 := (u.b : Nat), p16 := (u.p : Nat) })) (h1 := by exact kb_all K4.out 0 rfl 73 _ rfl rfl Tryd.underlying73 rfl (size50)) (h := ?_))
     refine kb_call K4.out 20 #[.agg (poA { x with p13 := (u.r : Nat), p14 := (u.c : Nat), p15 := (u.b : Nat), p16 := (u.p : Nat) })] (.bool true) (by rfl) (by go_simp) (CO.out true hon w4) (py (h := ?_))
     intro w5 K5
     refine wz6 (.bool false) (.bool false) (iV age) (.bool false) (.bool false) (.bool false) (h4 := by have q := ha; go_simp) (h5 := by exact run_pick_no (.tmp 15) (.const (.bool true)) (.tmp 17) _ rfl rfl rfl) (h := wz6 (iV age) (pT b3 1) (iV c.p1) (.bool false) (.bool false) (.bool false) (h3 := by have q : w5.cell? ⟨b3, 1, none⟩ = some (iV c.p1) := K5.out.cell (i := 2) rfl (by rfl); go_simp) (h4 := by have q := hm; go_simp) (h5 := by exact run_pick_no (.tmp 19) (.const (.bool true)) (.tmp 23) _ rfl rfl rfl) (h := nz ?_))
     go_upto_region 3 with fail
     refine lz (wz2 (.agg (poA { x with p13 := (u.r : Nat), p14 := (u.c : Nat), p15 := (u.b : Nat), p16 := (u.p : Nat) })) (.agg (vcA v)) (h1 := by exact kb_all K5.out 0 rfl 73 _ rfl rfl Tryd.underlying73 rfl (size50)) (h2 := by exact kb_all K5.out 1 rfl 71 _ rfl rfl Tryd.underlying71 rfl (sizeV)) (h := ?_))
     refine kb_call K5.out 66 #[.agg (poA { x with p13 := (u.r : Nat), p14 := (u.c : Nat), p15 := (u.b : Nat), p16 := (u.p : Nat) }), .agg (vcA v)] (.bool false) (by rfl) (by go_simp) (by have q := CT.out w5; rw [ht] at q; exact q) (py (h := ?_))
     intro w6 K6
     refine wz2 (.bool true) (.bool true) (h := nz ?_)
     go_upto_region 4 with fail
     refine lz (wz1 (.agg (poA { x with p13 := (u.r : Nat), p14 := (u.c : Nat), p15 := (u.b : Nat), p16 := (u.p : Nat) })) (h1 := by exact kb_all K6.out 0 rfl 73 _ rfl rfl Tryd.underlying73 rfl (size50)) (h := ?_))
     refine kb_row K6.out 3 rfl 73 _ _ (poA { x with p13 := (u.r : Nat), p14 := (u.c : Nat), p15 := (u.b : Nat), p16 := (u.p : Nat) }) rfl rfl rfl rfl (size50) (by rfl) (po_all _) (py (h := ?_))
     intro w7 K7
     refine wz1 (iV 1) (h := nz ?_)
     go_wp2_with fail
     refine bodyPost_ret (v := .tuple #[.agg (poA { x with p13 := (u.r : Nat), p14 := (u.c : Nat), p15 := (u.b : Nat), p16 := (u.p : Nat) }), .int .i64 1]) (results_row_tmp Tryd.results47 _ _ b4 73 (poA { x with p13 := (u.r : Nat), p14 := (u.c : Nat), p15 := (u.b : Nat), p16 := (u.p : Nat) }) (.int .i64 1) _ rfl rfl (K7.out.at (i := 3) rfl) Tryd.underlying73 rfl (po_info _)) rfl ?_
     exact ⟨rfl, K7.out.below⟩
    case true =>
     by_cases hi : x.p12 = 2
     case neg =>
      have hP : hearP x u v age c = hearT x v age c := by unfold hearP; rw [hO, ht]; rfl
      have hN : hearN x u v age c = 3 := by unfold hearN; rw [hO, ht]; simp [hi]
      rw [hP, hN]
      clear hP hN
      unfold poU hearT
      have K := Lib.hid (Kb.nil w)
      go_enter Tryd.func47, Tryd.ntmps47
      go_upto_region 0 with fail
      refine wp_region_lit ?_
      refine kb_box K.out 73 (.tmp 0) (poA { x with p13 := (u.r : Nat), p14 := (u.c : Nat), p15 := (u.b : Nat), p16 := (u.p : Nat) }) rfl rfl (by rfl) (pz (h := ?_))
      intro b1 w1 K1
      refine kb_box K1.out 71 (.tmp 1) (vcA v) rfl rfl (by rfl) (pz (h := ?_))
      intro b2 w2 K2
      refine kb_box K2.out 31 (.tmp 3) (cfA c) rfl rfl (by rfl) (pz (h := ?_))
      intro b3 w3 K3
      refine kb_alloc K3.out 73 (nil21) rfl z50 (by rfl) (pz (h := ?_))
      intro b4 w4 K4
      refine wz1 (iV 0) (h := nz ?_)
      go_upto_region 1 with fail
      refine lz (wz1 (.agg (poA { x with p13 := (u.r : Nat), p14 := (u.c : Nat), p15 := (u.b : Nat), p16 := (u.p : Nat) })) (h1 := by exact kb_all K4.out 0 rfl 73 _ rfl rfl Tryd.underlying73 rfl (size50)) (h := ?_))
      refine kb_call K4.out 20 #[.agg (poA { x with p13 := (u.r : Nat), p14 := (u.c : Nat), p15 := (u.b : Nat), p16 := (u.p : Nat) })] (.bool true) (by rfl) (by go_simp) (CO.out true hon w4) (py (h := ?_))
      intro w5 K5
      refine wz6 (.bool false) (.bool false) (iV age) (.bool false) (.bool false) (.bool false) (h4 := by have q := ha; go_simp) (h5 := by exact run_pick_no (.tmp 15) (.const (.bool true)) (.tmp 17) _ rfl rfl rfl) (h := wz6 (iV age) (pT b3 1) (iV c.p1) (.bool false) (.bool false) (.bool false) (h3 := by have q : w5.cell? ⟨b3, 1, none⟩ = some (iV c.p1) := K5.out.cell (i := 2) rfl (by rfl); go_simp) (h4 := by have q := hm; go_simp) (h5 := by exact run_pick_no (.tmp 19) (.const (.bool true)) (.tmp 23) _ rfl rfl rfl) (h := nz ?_))
      go_upto_region 3 with fail
      refine lz (wz2 (.agg (poA { x with p13 := (u.r : Nat), p14 := (u.c : Nat), p15 := (u.b : Nat), p16 := (u.p : Nat) })) (.agg (vcA v)) (h1 := by exact kb_all K5.out 0 rfl 73 _ rfl rfl Tryd.underlying73 rfl (size50)) (h2 := by exact kb_all K5.out 1 rfl 71 _ rfl rfl Tryd.underlying71 rfl (sizeV)) (h := ?_))
      refine kb_call K5.out 66 #[.agg (poA { x with p13 := (u.r : Nat), p14 := (u.c : Nat), p15 := (u.b : Nat), p16 := (u.p : Nat) }), .agg (vcA v)] (.bool true) (by rfl) (by go_simp) (by have q := CT.out w5; rw [ht] at q; exact q) (py (h := ?_))
      intro w6 K6
      refine wz2 (.bool false) (.bool false) (h := nz ?_)
      go_upto_region 5 with fail
      refine lz (wz1 (iV 3) (h := nz ?_))
      go_upto_region 6 with fail
      refine lz (wz4 (pT b1 12) (iV x.p12) (.bool false) (.bool false) (h2 := by have q : w6.cell? ⟨b1, 12, none⟩ = some (iV x.p12) := K6.out.cell (i := 0) rfl (by rfl); go_simp) (h3 := by have q := hi; go_simp) (h := wk (h := wk (h := wk (h := wk (h := wz1 (.bool false) (h1 := by exact run_pick_no (.tmp 35) (.tmp 39) (.const (.bool false)) _ rfl rfl rfl) (h := nz ?_)))))))
      go_upto_region 8 with fail
      refine wp_region_inv (I := fun L ac w' => ∃ (v41 v42 v43 v44 v45 v46 v47 v48 v49 : Value), ac = { tmps := #[.agg (poA { x with p13 := (u.r : Nat), p14 := (u.c : Nat), p15 := (u.b : Nat), p16 := (u.p : Nat) }), .agg (vcA v), .int .i64 age, .agg (cfA c), .pointer (some ⟨b1, 0, none⟩), .pointer (some ⟨b2, 0, none⟩), undef, .pointer (some ⟨b3, 0, none⟩), .pointer (some ⟨b4, 0, none⟩), .int .i64 0, .int .i64 3, .bool false, .agg (poA { x with p13 := (u.r : Nat), p14 := (u.c : Nat), p15 := (u.b : Nat), p16 := (u.p : Nat) }), .bool true, .bool false, .bool false, .int .i64 age, .bool false, .bool false, .bool false, .int .i64 age, .pointer (some ⟨b3, 1, none⟩), .int .i64 c.p1, .bool false, .bool false, undef, .bool false, .agg (poA { x with p13 := (u.r : Nat), p14 := (u.c : Nat), p15 := (u.b : Nat), p16 := (u.p : Nat) }), .agg (vcA v), .bool true, .bool false, undef, .pointer (some ⟨b1, 12, none⟩), .int .i64 x.p12, .bool false, .bool false, undef, undef, undef, undef, .bool false, v41, v42, v43, v44, v45, v46, v47, v48, v49, undef, undef], defers := [] } ∧ (L 0 = true → v41 = .agg (vcA v)) ∧ (L 1 = true → v42 = .int .i64 age) ∧ (L 2 = true → v43 = .pointer (some ⟨b3, 2, none⟩)) ∧ (L 3 = true → v44 = .int .i64 c.p2) ∧ (L 4 = true → v45 = .int .i64 (IntKind.i64.wrap (3 * c.p2))) ∧ (L 5 = true → v46 = .pointer (some ⟨b1, 12, none⟩)) ∧ (L 7 = true → v47 = .pointer (some ⟨b1, 13, none⟩)) ∧ (L 9 = true → v48 = .pointer (some ⟨b1, 17, none⟩)) ∧ (L 11 = true → v49 = .pointer (some ⟨b1, 18, none⟩)) ∧ Kb w [(b1, poA { x with p12 := (bif L 6 then 2 else x.p12), p13 := (bif L 8 then (v.r : Nat) else (u.r : Nat)), p14 := (bif L 8 then (v.c : Nat) else (u.c : Nat)), p15 := (bif L 8 then (v.b : Nat) else (u.b : Nat)), p16 := (bif L 8 then (v.p : Nat) else (u.p : Nat)), p17 := (bif L 10 then age else x.p17), p18 := (bif L 12 then (IntKind.i64.wrap (3 * c.p2)) else x.p18) }, 73), (b2, vcA v, 71), (b3, cfA c, 31), (b4, nil21, 73)] w') (by kernel_rfl) (by kernel_rfl) ⟨_, _, _, _, _, _, _, _, _, rfl, (fun h => Bool.noConfusion h), (fun h => Bool.noConfusion h), (fun h => Bool.noConfusion h), (fun h => Bool.noConfusion h), (fun h => Bool.noConfusion h), (fun h => Bool.noConfusion h), (fun h => Bool.noConfusion h), (fun h => Bool.noConfusion h), (fun h => Bool.noConfusion h), K6.out.drew⟩ ?_ ?_
      ·
       intro i hi Lx ac w' hI hL haft
       obtain ⟨v41, v42, v43, v44, v45, v46, v47, v48, v49, rfl, e41, e42, e43, e44, e45, e46, e47, e48, e49, hw⟩ := hI
       match i, hi with
       | 0, _ =>
        exact i_val rfl (.agg (vcA v)) w' (by rfl) (kb_all hw 1 rfl 71 _ rfl rfl Tryd.underlying71 rfl (sizeV)) ⟨(.agg (vcA v)), v42, v43, v44, v45, v46, v47, v48, v49, rfl, (fun _ => rfl), e42, e43, e44, e45, e46, e47, e48, e49, hw⟩
       | 1, _ =>
        exact i_val rfl (.int .i64 age) w' (by rfl) (by go_simp) ⟨v41, (.int .i64 age), v43, v44, v45, v46, v47, v48, v49, rfl, e41, (fun _ => rfl), e43, e44, e45, e46, e47, e48, e49, hw⟩
       | 2, _ =>
        exact i_val rfl (.pointer (some ⟨b3, 2, none⟩)) w' (by rfl) (by go_simp) ⟨v41, v42, (.pointer (some ⟨b3, 2, none⟩)), v44, v45, v46, v47, v48, v49, rfl, e41, e42, (fun _ => rfl), e44, e45, e46, e47, e48, e49, hw⟩
       | 3, _ =>
        have e43x := e43 (haft 2 (by decide))
        subst e43x
        exact i_val rfl (.int .i64 c.p2) w' (by rfl) (by have q : w'.cell? ⟨b3, 2, none⟩ = some (.int .i64 c.p2) := Kb.cell (i := 2) hw rfl (by rfl); go_simp) ⟨v41, v42, (.pointer (some ⟨b3, 2, none⟩)), (.int .i64 c.p2), v45, v46, v47, v48, v49, rfl, e41, e42, e43, (fun _ => rfl), e45, e46, e47, e48, e49, hw⟩
       | 4, _ =>
        have e44x := e44 (haft 3 (by decide))
        subst e44x
        exact i_val rfl (.int .i64 (IntKind.i64.wrap (3 * c.p2))) w' (by rfl) (by go_simp) ⟨v41, v42, v43, (.int .i64 c.p2), (.int .i64 (IntKind.i64.wrap (3 * c.p2))), v46, v47, v48, v49, rfl, e41, e42, e43, e44, (fun _ => rfl), e46, e47, e48, e49, hw⟩
       | 5, _ =>
        exact i_val rfl (.pointer (some ⟨b1, 12, none⟩)) w' (by rfl) (by go_simp) ⟨v41, v42, v43, v44, v45, (.pointer (some ⟨b1, 12, none⟩)), v47, v48, v49, rfl, e41, e42, e43, e44, e45, (fun _ => rfl), e47, e48, e49, hw⟩
       | 6, _ =>
        have e46x := e46 (haft 5 (by decide))
        subst e46x
        exact i_wp rfl (by rfl) (wp_store_cell 3 _ _ rfl ⟨b1, 12, none⟩ (.int .i64 2) rfl rfl (kb_run_set hw (i := 0) rfl 3 12 (.int .i64 (bif Lx 6 then 2 else x.p12)) (.int .i64 2) (by rfl) (fun W h1 h2 => by go_simp)) ⟨v41, v42, v43, v44, v45, (.pointer (some ⟨b1, 12, none⟩)), v47, v48, v49, rfl, e41, e42, e43, e44, e45, e46, e47, e48, e49, cast_blk (Kb.set (i := 0) hw rfl 12 (.int .i64 2)) (by rfl)⟩)
       | 7, _ =>
        exact i_val rfl (.pointer (some ⟨b1, 13, none⟩)) w' (by rfl) (by go_simp) ⟨v41, v42, v43, v44, v45, v46, (.pointer (some ⟨b1, 13, none⟩)), v48, v49, rfl, e41, e42, e43, e44, e45, e46, (fun _ => rfl), e48, e49, hw⟩
       | 8, _ =>
        have e47x := e47 (haft 7 (by decide))
        subst e47x
        have e41x := e41 (haft 0 (by decide))
        subst e41x
        exact i_wp rfl (by rfl) (wp_store_mid 71 _ _ rfl b1 13 (vcA v) rfl rfl ((Kb.at (i := 0) hw rfl).thereN 13 4 (Nat.le_of_ble_eq_true (by kernel_rfl))) (sizeV) (by kernel_rfl) ⟨(.agg (vcA v)), v42, v43, v44, v45, v46, (.pointer (some ⟨b1, 13, none⟩)), v48, v49, rfl, e41, e42, e43, e44, e45, e46, e47, e48, e49, cast_blk (Kb.mid (i := 0) hw rfl 13 (vcA v).toList) (by rfl)⟩)
       | 9, _ =>
        exact i_val rfl (.pointer (some ⟨b1, 17, none⟩)) w' (by rfl) (by go_simp) ⟨v41, v42, v43, v44, v45, v46, v47, (.pointer (some ⟨b1, 17, none⟩)), v49, rfl, e41, e42, e43, e44, e45, e46, e47, (fun _ => rfl), e49, hw⟩
       | 10, _ =>
        have e48x := e48 (haft 9 (by decide))
        subst e48x
        have e42x := e42 (haft 1 (by decide))
        subst e42x
        exact i_wp rfl (by rfl) (wp_store_cell 3 _ _ rfl ⟨b1, 17, none⟩ (.int .i64 age) rfl rfl (kb_run_set hw (i := 0) rfl 3 17 (.int .i64 (bif Lx 10 then age else x.p17)) (.int .i64 age) (by rfl) (fun W h1 h2 => by go_simp)) ⟨v41, (.int .i64 age), v43, v44, v45, v46, v47, (.pointer (some ⟨b1, 17, none⟩)), v49, rfl, e41, e42, e43, e44, e45, e46, e47, e48, e49, cast_blk (Kb.set (i := 0) hw rfl 17 (.int .i64 age)) (by rfl)⟩)
       | 11, _ =>
        exact i_val rfl (.pointer (some ⟨b1, 18, none⟩)) w' (by rfl) (by go_simp) ⟨v41, v42, v43, v44, v45, v46, v47, v48, (.pointer (some ⟨b1, 18, none⟩)), rfl, e41, e42, e43, e44, e45, e46, e47, e48, (fun _ => rfl), hw⟩
       | 12, _ =>
        have e49x := e49 (haft 11 (by decide))
        subst e49x
        have e45x := e45 (haft 4 (by decide))
        subst e45x
        exact i_wp rfl (by rfl) (wp_store_cell 3 _ _ rfl ⟨b1, 18, none⟩ (.int .i64 (IntKind.i64.wrap (3 * c.p2))) rfl rfl (kb_run_set hw (i := 0) rfl 3 18 (.int .i64 (bif Lx 12 then (IntKind.i64.wrap (3 * c.p2)) else x.p18)) (.int .i64 (IntKind.i64.wrap (3 * c.p2))) (by rfl) (fun W h1 h2 => by go_simp)) ⟨v41, v42, v43, v44, (.int .i64 (IntKind.i64.wrap (3 * c.p2))), v46, v47, v48, (.pointer (some ⟨b1, 18, none⟩)), rfl, e41, e42, e43, e44, e45, e46, e47, e48, e49, cast_blk (Kb.set (i := 0) hw rfl 18 (.int .i64 (IntKind.i64.wrap (3 * c.p2)))) (by rfl)⟩)
       | k + 13, h =>
        exfalso
        have h2 : k + 13 < 13 := h
        omega
      intro Lx ac w7 hI hall
      obtain ⟨v41, v42, v43, v44, v45, v46, v47, v48, v49, rfl, e41, e42, e43, e44, e45, e46, e47, e48, e49, hw⟩ := hI
      have e41y := e41 (hall 0 (by decide))
      subst e41y
      have e42y := e42 (hall 1 (by decide))
      subst e42y
      have e43y := e43 (hall 2 (by decide))
      subst e43y
      have e44y := e44 (hall 3 (by decide))
      subst e44y
      have e45y := e45 (hall 4 (by decide))
      subst e45y
      have e46y := e46 (hall 5 (by decide))
      subst e46y
      have e47y := e47 (hall 7 (by decide))
      subst e47y
      have e48y := e48 (hall 9 (by decide))
      subst e48y
      have e49y := e49 (hall 11 (by decide))
      subst e49y
      have hL6 := hall 6 (by decide)
      have hL8 := hall 8 (by decide)
      have hL10 := hall 10 (by decide)
      have hL12 := hall 12 (by decide)
      simp only [hL6, hL8, hL10, hL12, cond_true] at hw
      have K7 := Lib.hid hw
      clear hw hall hL6 hL8 hL10 hL12
      go_upto_region 9 with fail
      refine lz (wz2 (.agg (poA { x with p12 := 2, p13 := (v.r : Nat), p14 := (v.c : Nat), p15 := (v.b : Nat), p16 := (v.p : Nat), p17 := age, p18 := (IntKind.i64.wrap (3 * c.p2)) })) (iV 3) (h1 := by exact kb_all K7.out 0 rfl 73 _ rfl rfl Tryd.underlying73 rfl (size50)) (h := ?_))
      refine kb_row K7.out 3 rfl 73 _ _ (poA { x with p12 := 2, p13 := (v.r : Nat), p14 := (v.c : Nat), p15 := (v.b : Nat), p16 := (v.p : Nat), p17 := age, p18 := (IntKind.i64.wrap (3 * c.p2)) }) rfl rfl rfl rfl (size50) (by rfl) (po_all _) (py (h := ?_))
      intro w8 K8
      refine wz1 (iV 3) (h := nz ?_)
      go_wp2_with fail
      refine bodyPost_ret (v := .tuple #[.agg (poA { x with p12 := 2, p13 := (v.r : Nat), p14 := (v.c : Nat), p15 := (v.b : Nat), p16 := (v.p : Nat), p17 := age, p18 := (IntKind.i64.wrap (3 * c.p2)) }), .int .i64 3]) (results_row_tmp Tryd.results47 _ _ b4 73 (poA { x with p12 := 2, p13 := (v.r : Nat), p14 := (v.c : Nat), p15 := (v.b : Nat), p16 := (v.p : Nat), p17 := age, p18 := (IntKind.i64.wrap (3 * c.p2)) }) (.int .i64 3) _ rfl rfl (K8.out.at (i := 3) rfl) Tryd.underlying73 rfl (po_info _)) rfl ?_
      exact ⟨rfl, K8.out.below⟩
     case pos =>
      cases he : eqV u v
      case false =>
       have hP : hearP x u v age c = hearT x v age c := by unfold hearP; rw [hO, ht]; rfl
       have hN : hearN x u v age c = 3 := by unfold hearN; rw [hO, ht]; simp [hi, he]
       rw [hP, hN]
       clear hP hN
       unfold poU hearT
       have K := Lib.hid (Kb.nil w)
       go_enter Tryd.func47, Tryd.ntmps47
       go_upto_region 0 with fail
       refine wp_region_lit ?_
       refine kb_box K.out 73 (.tmp 0) (poA { x with p13 := (u.r : Nat), p14 := (u.c : Nat), p15 := (u.b : Nat), p16 := (u.p : Nat) }) rfl rfl (by rfl) (pz (h := ?_))
       intro b1 w1 K1
       refine kb_box K1.out 71 (.tmp 1) (vcA v) rfl rfl (by rfl) (pz (h := ?_))
       intro b2 w2 K2
       refine kb_box K2.out 31 (.tmp 3) (cfA c) rfl rfl (by rfl) (pz (h := ?_))
       intro b3 w3 K3
       refine kb_alloc K3.out 73 (nil21) rfl z50 (by rfl) (pz (h := ?_))
       intro b4 w4 K4
       refine wz1 (iV 0) (h := nz ?_)
       go_upto_region 1 with fail
       refine lz (wz1 (.agg (poA { x with p13 := (u.r : Nat), p14 := (u.c : Nat), p15 := (u.b : Nat), p16 := (u.p : Nat) })) (h1 := by exact kb_all K4.out 0 rfl 73 _ rfl rfl Tryd.underlying73 rfl (size50)) (h := ?_))
       refine kb_call K4.out 20 #[.agg (poA { x with p13 := (u.r : Nat), p14 := (u.c : Nat), p15 := (u.b : Nat), p16 := (u.p : Nat) })] (.bool true) (by rfl) (by go_simp) (CO.out true hon w4) (py (h := ?_))
       intro w5 K5
       refine wz6 (.bool false) (.bool false) (iV age) (.bool false) (.bool false) (.bool false) (h4 := by have q := ha; go_simp) (h5 := by exact run_pick_no (.tmp 15) (.const (.bool true)) (.tmp 17) _ rfl rfl rfl) (h := wz6 (iV age) (pT b3 1) (iV c.p1) (.bool false) (.bool false) (.bool false) (h3 := by have q : w5.cell? ⟨b3, 1, none⟩ = some (iV c.p1) := K5.out.cell (i := 2) rfl (by rfl); go_simp) (h4 := by have q := hm; go_simp) (h5 := by exact run_pick_no (.tmp 19) (.const (.bool true)) (.tmp 23) _ rfl rfl rfl) (h := nz ?_))
       go_upto_region 3 with fail
       refine lz (wz2 (.agg (poA { x with p13 := (u.r : Nat), p14 := (u.c : Nat), p15 := (u.b : Nat), p16 := (u.p : Nat) })) (.agg (vcA v)) (h1 := by exact kb_all K5.out 0 rfl 73 _ rfl rfl Tryd.underlying73 rfl (size50)) (h2 := by exact kb_all K5.out 1 rfl 71 _ rfl rfl Tryd.underlying71 rfl (sizeV)) (h := ?_))
       refine kb_call K5.out 66 #[.agg (poA { x with p13 := (u.r : Nat), p14 := (u.c : Nat), p15 := (u.b : Nat), p16 := (u.p : Nat) }), .agg (vcA v)] (.bool true) (by rfl) (by go_simp) (by have q := CT.out w5; rw [ht] at q; exact q) (py (h := ?_))
       intro w6 K6
       refine wz2 (.bool false) (.bool false) (h := nz ?_)
       go_upto_region 5 with fail
       refine lz (wz1 (iV 3) (h := nz ?_))
       go_upto_region 6 with fail
       refine lz (wz6 (pT b1 12) (iV x.p12) (.bool true) (.bool true) (pT b1 13) (.agg (#[.int .u64 (u.r : Nat), .int .u32 (u.c : Nat), .int .u64 (u.b : Nat), .int .u16 (u.p : Nat)])) (h2 := by have q : w6.cell? ⟨b1, 12, none⟩ = some (iV x.p12) := K6.out.cell (i := 0) rfl (by rfl); go_simp) (h3 := by have q := hi; go_simp) (h6 := by exact kb_prt K6.out 0 rfl 71 _ 13 rfl rfl (part_of (by kernel_rfl)) Tryd.underlying71 rfl (sizeV)) (h := wz3 (.agg (vcA v)) (.bool false) (.bool false) (h1 := by exact kb_all K6.out 1 rfl 71 _ rfl rfl Tryd.underlying71 rfl (sizeV)) (h2 := by have q := CE.out; rw [he] at q; go_simp) (h3 := by exact run_pick_yes (.tmp 35) (.tmp 39) (.const (.bool false)) _ rfl rfl rfl) (h := nz ?_)))
       go_upto_region 8 with fail
       refine wp_region_inv (I := fun L ac w' => ∃ (v41 v42 v43 v44 v45 v46 v47 v48 v49 : Value), ac = { tmps := #[.agg (poA { x with p13 := (u.r : Nat), p14 := (u.c : Nat), p15 := (u.b : Nat), p16 := (u.p : Nat) }), .agg (vcA v), .int .i64 age, .agg (cfA c), .pointer (some ⟨b1, 0, none⟩), .pointer (some ⟨b2, 0, none⟩), undef, .pointer (some ⟨b3, 0, none⟩), .pointer (some ⟨b4, 0, none⟩), .int .i64 0, .int .i64 3, .bool false, .agg (poA { x with p13 := (u.r : Nat), p14 := (u.c : Nat), p15 := (u.b : Nat), p16 := (u.p : Nat) }), .bool true, .bool false, .bool false, .int .i64 age, .bool false, .bool false, .bool false, .int .i64 age, .pointer (some ⟨b3, 1, none⟩), .int .i64 c.p1, .bool false, .bool false, undef, .bool false, .agg (poA { x with p13 := (u.r : Nat), p14 := (u.c : Nat), p15 := (u.b : Nat), p16 := (u.p : Nat) }), .agg (vcA v), .bool true, .bool false, undef, .pointer (some ⟨b1, 12, none⟩), .int .i64 x.p12, .bool true, .bool true, .pointer (some ⟨b1, 13, none⟩), .agg (#[.int .u64 (u.r : Nat), .int .u32 (u.c : Nat), .int .u64 (u.b : Nat), .int .u16 (u.p : Nat)]), .agg (vcA v), .bool false, .bool false, v41, v42, v43, v44, v45, v46, v47, v48, v49, undef, undef], defers := [] } ∧ (L 0 = true → v41 = .agg (vcA v)) ∧ (L 1 = true → v42 = .int .i64 age) ∧ (L 2 = true → v43 = .pointer (some ⟨b3, 2, none⟩)) ∧ (L 3 = true → v44 = .int .i64 c.p2) ∧ (L 4 = true → v45 = .int .i64 (IntKind.i64.wrap (3 * c.p2))) ∧ (L 5 = true → v46 = .pointer (some ⟨b1, 12, none⟩)) ∧ (L 7 = true → v47 = .pointer (some ⟨b1, 13, none⟩)) ∧ (L 9 = true → v48 = .pointer (some ⟨b1, 17, none⟩)) ∧ (L 11 = true → v49 = .pointer (some ⟨b1, 18, none⟩)) ∧ Kb w [(b1, poA { x with p12 := (bif L 6 then 2 else x.p12), p13 := (bif L 8 then (v.r : Nat) else (u.r : Nat)), p14 := (bif L 8 then (v.c : Nat) else (u.c : Nat)), p15 := (bif L 8 then (v.b : Nat) else (u.b : Nat)), p16 := (bif L 8 then (v.p : Nat) else (u.p : Nat)), p17 := (bif L 10 then age else x.p17), p18 := (bif L 12 then (IntKind.i64.wrap (3 * c.p2)) else x.p18) }, 73), (b2, vcA v, 71), (b3, cfA c, 31), (b4, nil21, 73)] w') (by kernel_rfl) (by kernel_rfl) ⟨_, _, _, _, _, _, _, _, _, rfl, (fun h => Bool.noConfusion h), (fun h => Bool.noConfusion h), (fun h => Bool.noConfusion h), (fun h => Bool.noConfusion h), (fun h => Bool.noConfusion h), (fun h => Bool.noConfusion h), (fun h => Bool.noConfusion h), (fun h => Bool.noConfusion h), (fun h => Bool.noConfusion h), K6.out.drew⟩ ?_ ?_
       ·
        intro i hi Lx ac w' hI hL haft
        obtain ⟨v41, v42, v43, v44, v45, v46, v47, v48, v49, rfl, e41, e42, e43, e44, e45, e46, e47, e48, e49, hw⟩ := hI
        match i, hi with
        | 0, _ =>
         exact i_val rfl (.agg (vcA v)) w' (by rfl) (kb_all hw 1 rfl 71 _ rfl rfl Tryd.underlying71 rfl (sizeV)) ⟨(.agg (vcA v)), v42, v43, v44, v45, v46, v47, v48, v49, rfl, (fun _ => rfl), e42, e43, e44, e45, e46, e47, e48, e49, hw⟩
        | 1, _ =>
         exact i_val rfl (.int .i64 age) w' (by rfl) (by go_simp) ⟨v41, (.int .i64 age), v43, v44, v45, v46, v47, v48, v49, rfl, e41, (fun _ => rfl), e43, e44, e45, e46, e47, e48, e49, hw⟩
        | 2, _ =>
         exact i_val rfl (.pointer (some ⟨b3, 2, none⟩)) w' (by rfl) (by go_simp) ⟨v41, v42, (.pointer (some ⟨b3, 2, none⟩)), v44, v45, v46, v47, v48, v49, rfl, e41, e42, (fun _ => rfl), e44, e45, e46, e47, e48, e49, hw⟩
        | 3, _ =>
         have e43x := e43 (haft 2 (by decide))
         subst e43x
         exact i_val rfl (.int .i64 c.p2) w' (by rfl) (by have q : w'.cell? ⟨b3, 2, none⟩ = some (.int .i64 c.p2) := Kb.cell (i := 2) hw rfl (by rfl); go_simp) ⟨v41, v42, (.pointer (some ⟨b3, 2, none⟩)), (.int .i64 c.p2), v45, v46, v47, v48, v49, rfl, e41, e42, e43, (fun _ => rfl), e45, e46, e47, e48, e49, hw⟩
        | 4, _ =>
         have e44x := e44 (haft 3 (by decide))
         subst e44x
         exact i_val rfl (.int .i64 (IntKind.i64.wrap (3 * c.p2))) w' (by rfl) (by go_simp) ⟨v41, v42, v43, (.int .i64 c.p2), (.int .i64 (IntKind.i64.wrap (3 * c.p2))), v46, v47, v48, v49, rfl, e41, e42, e43, e44, (fun _ => rfl), e46, e47, e48, e49, hw⟩
        | 5, _ =>
         exact i_val rfl (.pointer (some ⟨b1, 12, none⟩)) w' (by rfl) (by go_simp) ⟨v41, v42, v43, v44, v45, (.pointer (some ⟨b1, 12, none⟩)), v47, v48, v49, rfl, e41, e42, e43, e44, e45, (fun _ => rfl), e47, e48, e49, hw⟩
        | 6, _ =>
         have e46x := e46 (haft 5 (by decide))
         subst e46x
         exact i_wp rfl (by rfl) (wp_store_cell 3 _ _ rfl ⟨b1, 12, none⟩ (.int .i64 2) rfl rfl (kb_run_set hw (i := 0) rfl 3 12 (.int .i64 (bif Lx 6 then 2 else x.p12)) (.int .i64 2) (by rfl) (fun W h1 h2 => by go_simp)) ⟨v41, v42, v43, v44, v45, (.pointer (some ⟨b1, 12, none⟩)), v47, v48, v49, rfl, e41, e42, e43, e44, e45, e46, e47, e48, e49, cast_blk (Kb.set (i := 0) hw rfl 12 (.int .i64 2)) (by rfl)⟩)
        | 7, _ =>
         exact i_val rfl (.pointer (some ⟨b1, 13, none⟩)) w' (by rfl) (by go_simp) ⟨v41, v42, v43, v44, v45, v46, (.pointer (some ⟨b1, 13, none⟩)), v48, v49, rfl, e41, e42, e43, e44, e45, e46, (fun _ => rfl), e48, e49, hw⟩
        | 8, _ =>
         have e47x := e47 (haft 7 (by decide))
         subst e47x
         have e41x := e41 (haft 0 (by decide))
         subst e41x
         exact i_wp rfl (by rfl) (wp_store_mid 71 _ _ rfl b1 13 (vcA v) rfl rfl ((Kb.at (i := 0) hw rfl).thereN 13 4 (Nat.le_of_ble_eq_true (by kernel_rfl))) (sizeV) (by kernel_rfl) ⟨(.agg (vcA v)), v42, v43, v44, v45, v46, (.pointer (some ⟨b1, 13, none⟩)), v48, v49, rfl, e41, e42, e43, e44, e45, e46, e47, e48, e49, cast_blk (Kb.mid (i := 0) hw rfl 13 (vcA v).toList) (by rfl)⟩)
        | 9, _ =>
         exact i_val rfl (.pointer (some ⟨b1, 17, none⟩)) w' (by rfl) (by go_simp) ⟨v41, v42, v43, v44, v45, v46, v47, (.pointer (some ⟨b1, 17, none⟩)), v49, rfl, e41, e42, e43, e44, e45, e46, e47, (fun _ => rfl), e49, hw⟩
        | 10, _ =>
         have e48x := e48 (haft 9 (by decide))
         subst e48x
         have e42x := e42 (haft 1 (by decide))
         subst e42x
         exact i_wp rfl (by rfl) (wp_store_cell 3 _ _ rfl ⟨b1, 17, none⟩ (.int .i64 age) rfl rfl (kb_run_set hw (i := 0) rfl 3 17 (.int .i64 (bif Lx 10 then age else x.p17)) (.int .i64 age) (by rfl) (fun W h1 h2 => by go_simp)) ⟨v41, (.int .i64 age), v43, v44, v45, v46, v47, (.pointer (some ⟨b1, 17, none⟩)), v49, rfl, e41, e42, e43, e44, e45, e46, e47, e48, e49, cast_blk (Kb.set (i := 0) hw rfl 17 (.int .i64 age)) (by rfl)⟩)
        | 11, _ =>
         exact i_val rfl (.pointer (some ⟨b1, 18, none⟩)) w' (by rfl) (by go_simp) ⟨v41, v42, v43, v44, v45, v46, v47, v48, (.pointer (some ⟨b1, 18, none⟩)), rfl, e41, e42, e43, e44, e45, e46, e47, e48, (fun _ => rfl), hw⟩
        | 12, _ =>
         have e49x := e49 (haft 11 (by decide))
         subst e49x
         have e45x := e45 (haft 4 (by decide))
         subst e45x
         exact i_wp rfl (by rfl) (wp_store_cell 3 _ _ rfl ⟨b1, 18, none⟩ (.int .i64 (IntKind.i64.wrap (3 * c.p2))) rfl rfl (kb_run_set hw (i := 0) rfl 3 18 (.int .i64 (bif Lx 12 then (IntKind.i64.wrap (3 * c.p2)) else x.p18)) (.int .i64 (IntKind.i64.wrap (3 * c.p2))) (by rfl) (fun W h1 h2 => by go_simp)) ⟨v41, v42, v43, v44, (.int .i64 (IntKind.i64.wrap (3 * c.p2))), v46, v47, v48, (.pointer (some ⟨b1, 18, none⟩)), rfl, e41, e42, e43, e44, e45, e46, e47, e48, e49, cast_blk (Kb.set (i := 0) hw rfl 18 (.int .i64 (IntKind.i64.wrap (3 * c.p2)))) (by rfl)⟩)
        | k + 13, h =>
         exfalso
         have h2 : k + 13 < 13 := h
         omega
       intro Lx ac w7 hI hall
       obtain ⟨v41, v42, v43, v44, v45, v46, v47, v48, v49, rfl, e41, e42, e43, e44, e45, e46, e47, e48, e49, hw⟩ := hI
       have e41y := e41 (hall 0 (by decide))
       subst e41y
       have e42y := e42 (hall 1 (by decide))
       subst e42y
       have e43y := e43 (hall 2 (by decide))
       subst e43y
       have e44y := e44 (hall 3 (by decide))
       subst e44y
       have e45y := e45 (hall 4 (by decide))
       subst e45y
       have e46y := e46 (hall 5 (by decide))
       subst e46y
       have e47y := e47 (hall 7 (by decide))
       subst e47y
       have e48y := e48 (hall 9 (by decide))
       subst e48y
       have e49y := e49 (hall 11 (by decide))
       subst e49y
       have hL6 := hall 6 (by decide)
       have hL8 := hall 8 (by decide)
       have hL10 := hall 10 (by decide)
       have hL12 := hall 12 (by decide)
       simp only [hL6, hL8, hL10, hL12, cond_true] at hw
       have K7 := Lib.hid hw
       clear hw hall hL6 hL8 hL10 hL12
       go_upto_region 9 with fail
       refine lz (wz2 (.agg (poA { x with p12 := 2, p13 := (v.r : Nat), p14 := (v.c : Nat), p15 := (v.b : Nat), p16 := (v.p : Nat), p17 := age, p18 := (IntKind.i64.wrap (3 * c.p2)) })) (iV 3) (h1 := by exact kb_all K7.out 0 rfl 73 _ rfl rfl Tryd.underlying73 rfl (size50)) (h := ?_))
       refine kb_row K7.out 3 rfl 73 _ _ (poA { x with p12 := 2, p13 := (v.r : Nat), p14 := (v.c : Nat), p15 := (v.b : Nat), p16 := (v.p : Nat), p17 := age, p18 := (IntKind.i64.wrap (3 * c.p2)) }) rfl rfl rfl rfl (size50) (by rfl) (po_all _) (py (h := ?_))
       intro w8 K8
       refine wz1 (iV 3) (h := nz ?_)
       go_wp2_with fail
       refine bodyPost_ret (v := .tuple #[.agg (poA { x with p12 := 2, p13 := (v.r : Nat), p14 := (v.c : Nat), p15 := (v.b : Nat), p16 := (v.p : Nat), p17 := age, p18 := (IntKind.i64.wrap (3 * c.p2)) }), .int .i64 3]) (results_row_tmp Tryd.results47 _ _ b4 73 (poA { x with p12 := 2, p13 := (v.r : Nat), p14 := (v.c : Nat), p15 := (v.b : Nat), p16 := (v.p : Nat), p17 := age, p18 := (IntKind.i64.wrap (3 * c.p2)) }) (.int .i64 3) _ rfl rfl (K8.out.at (i := 3) rfl) Tryd.underlying73 rfl (po_info _)) rfl ?_
       exact ⟨rfl, K8.out.below⟩
      case true =>
       have hP : hearP x u v age c = hearT x v age c := by unfold hearP; rw [hO, ht]; rfl
       have hN : hearN x u v age c = 2 := by unfold hearN; rw [hO, ht]; simp [hi, he]
       rw [hP, hN]
       clear hP hN
       unfold poU hearT
       have K := Lib.hid (Kb.nil w)
       go_enter Tryd.func47, Tryd.ntmps47
       go_upto_region 0 with fail
       refine wp_region_lit ?_
       refine kb_box K.out 73 (.tmp 0) (poA { x with p13 := (u.r : Nat), p14 := (u.c : Nat), p15 := (u.b : Nat), p16 := (u.p : Nat) }) rfl rfl (by rfl) (pz (h := ?_))
       intro b1 w1 K1
       refine kb_box K1.out 71 (.tmp 1) (vcA v) rfl rfl (by rfl) (pz (h := ?_))
       intro b2 w2 K2
       refine kb_box K2.out 31 (.tmp 3) (cfA c) rfl rfl (by rfl) (pz (h := ?_))
       intro b3 w3 K3
       refine kb_alloc K3.out 73 (nil21) rfl z50 (by rfl) (pz (h := ?_))
       intro b4 w4 K4
       refine wz1 (iV 0) (h := nz ?_)
       go_upto_region 1 with fail
       refine lz (wz1 (.agg (poA { x with p13 := (u.r : Nat), p14 := (u.c : Nat), p15 := (u.b : Nat), p16 := (u.p : Nat) })) (h1 := by exact kb_all K4.out 0 rfl 73 _ rfl rfl Tryd.underlying73 rfl (size50)) (h := ?_))
       refine kb_call K4.out 20 #[.agg (poA { x with p13 := (u.r : Nat), p14 := (u.c : Nat), p15 := (u.b : Nat), p16 := (u.p : Nat) })] (.bool true) (by rfl) (by go_simp) (CO.out true hon w4) (py (h := ?_))
       intro w5 K5
       refine wz6 (.bool false) (.bool false) (iV age) (.bool false) (.bool false) (.bool false) (h4 := by have q := ha; go_simp) (h5 := by exact run_pick_no (.tmp 15) (.const (.bool true)) (.tmp 17) _ rfl rfl rfl) (h := wz6 (iV age) (pT b3 1) (iV c.p1) (.bool false) (.bool false) (.bool false) (h3 := by have q : w5.cell? ⟨b3, 1, none⟩ = some (iV c.p1) := K5.out.cell (i := 2) rfl (by rfl); go_simp) (h4 := by have q := hm; go_simp) (h5 := by exact run_pick_no (.tmp 19) (.const (.bool true)) (.tmp 23) _ rfl rfl rfl) (h := nz ?_))
       go_upto_region 3 with fail
       refine lz (wz2 (.agg (poA { x with p13 := (u.r : Nat), p14 := (u.c : Nat), p15 := (u.b : Nat), p16 := (u.p : Nat) })) (.agg (vcA v)) (h1 := by exact kb_all K5.out 0 rfl 73 _ rfl rfl Tryd.underlying73 rfl (size50)) (h2 := by exact kb_all K5.out 1 rfl 71 _ rfl rfl Tryd.underlying71 rfl (sizeV)) (h := ?_))
       refine kb_call K5.out 66 #[.agg (poA { x with p13 := (u.r : Nat), p14 := (u.c : Nat), p15 := (u.b : Nat), p16 := (u.p : Nat) }), .agg (vcA v)] (.bool true) (by rfl) (by go_simp) (by have q := CT.out w5; rw [ht] at q; exact q) (py (h := ?_))
       intro w6 K6
       refine wz2 (.bool false) (.bool false) (h := nz ?_)
       go_upto_region 5 with fail
       refine lz (wz1 (iV 3) (h := nz ?_))
       go_upto_region 6 with fail
       refine lz (wz6 (pT b1 12) (iV x.p12) (.bool true) (.bool true) (pT b1 13) (.agg (#[.int .u64 (u.r : Nat), .int .u32 (u.c : Nat), .int .u64 (u.b : Nat), .int .u16 (u.p : Nat)])) (h2 := by have q : w6.cell? ⟨b1, 12, none⟩ = some (iV x.p12) := K6.out.cell (i := 0) rfl (by rfl); go_simp) (h3 := by have q := hi; go_simp) (h6 := by exact kb_prt K6.out 0 rfl 71 _ 13 rfl rfl (part_of (by kernel_rfl)) Tryd.underlying71 rfl (sizeV)) (h := wz3 (.agg (vcA v)) (.bool true) (.bool true) (h1 := by exact kb_all K6.out 1 rfl 71 _ rfl rfl Tryd.underlying71 rfl (sizeV)) (h2 := by have q := CE.out; rw [he] at q; go_simp) (h3 := by exact run_pick_yes (.tmp 35) (.tmp 39) (.const (.bool false)) _ rfl rfl rfl) (h := nz ?_)))
       go_upto_region 7 with fail
       refine lz (wz1 (iV 2) (h := nz ?_))
       go_upto_region 8 with fail
       refine wp_region_inv (I := fun L ac w' => ∃ (v41 v42 v43 v44 v45 v46 v47 v48 v49 : Value), ac = { tmps := #[.agg (poA { x with p13 := (u.r : Nat), p14 := (u.c : Nat), p15 := (u.b : Nat), p16 := (u.p : Nat) }), .agg (vcA v), .int .i64 age, .agg (cfA c), .pointer (some ⟨b1, 0, none⟩), .pointer (some ⟨b2, 0, none⟩), undef, .pointer (some ⟨b3, 0, none⟩), .pointer (some ⟨b4, 0, none⟩), .int .i64 0, .int .i64 2, .bool false, .agg (poA { x with p13 := (u.r : Nat), p14 := (u.c : Nat), p15 := (u.b : Nat), p16 := (u.p : Nat) }), .bool true, .bool false, .bool false, .int .i64 age, .bool false, .bool false, .bool false, .int .i64 age, .pointer (some ⟨b3, 1, none⟩), .int .i64 c.p1, .bool false, .bool false, undef, .bool false, .agg (poA { x with p13 := (u.r : Nat), p14 := (u.c : Nat), p15 := (u.b : Nat), p16 := (u.p : Nat) }), .agg (vcA v), .bool true, .bool false, undef, .pointer (some ⟨b1, 12, none⟩), .int .i64 x.p12, .bool true, .bool true, .pointer (some ⟨b1, 13, none⟩), .agg (#[.int .u64 (u.r : Nat), .int .u32 (u.c : Nat), .int .u64 (u.b : Nat), .int .u16 (u.p : Nat)]), .agg (vcA v), .bool true, .bool true, v41, v42, v43, v44, v45, v46, v47, v48, v49, undef, undef], defers := [] } ∧ (L 0 = true → v41 = .agg (vcA v)) ∧ (L 1 = true → v42 = .int .i64 age) ∧ (L 2 = true → v43 = .pointer (some ⟨b3, 2, none⟩)) ∧ (L 3 = true → v44 = .int .i64 c.p2) ∧ (L 4 = true → v45 = .int .i64 (IntKind.i64.wrap (3 * c.p2))) ∧ (L 5 = true → v46 = .pointer (some ⟨b1, 12, none⟩)) ∧ (L 7 = true → v47 = .pointer (some ⟨b1, 13, none⟩)) ∧ (L 9 = true → v48 = .pointer (some ⟨b1, 17, none⟩)) ∧ (L 11 = true → v49 = .pointer (some ⟨b1, 18, none⟩)) ∧ Kb w [(b1, poA { x with p12 := (bif L 6 then 2 else x.p12), p13 := (bif L 8 then (v.r : Nat) else (u.r : Nat)), p14 := (bif L 8 then (v.c : Nat) else (u.c : Nat)), p15 := (bif L 8 then (v.b : Nat) else (u.b : Nat)), p16 := (bif L 8 then (v.p : Nat) else (u.p : Nat)), p17 := (bif L 10 then age else x.p17), p18 := (bif L 12 then (IntKind.i64.wrap (3 * c.p2)) else x.p18) }, 73), (b2, vcA v, 71), (b3, cfA c, 31), (b4, nil21, 73)] w') (by kernel_rfl) (by kernel_rfl) ⟨_, _, _, _, _, _, _, _, _, rfl, (fun h => Bool.noConfusion h), (fun h => Bool.noConfusion h), (fun h => Bool.noConfusion h), (fun h => Bool.noConfusion h), (fun h => Bool.noConfusion h), (fun h => Bool.noConfusion h), (fun h => Bool.noConfusion h), (fun h => Bool.noConfusion h), (fun h => Bool.noConfusion h), K6.out.drew⟩ ?_ ?_
       ·
        intro i hi Lx ac w' hI hL haft
        obtain ⟨v41, v42, v43, v44, v45, v46, v47, v48, v49, rfl, e41, e42, e43, e44, e45, e46, e47, e48, e49, hw⟩ := hI
        match i, hi with
        | 0, _ =>
         exact i_val rfl (.agg (vcA v)) w' (by rfl) (kb_all hw 1 rfl 71 _ rfl rfl Tryd.underlying71 rfl (sizeV)) ⟨(.agg (vcA v)), v42, v43, v44, v45, v46, v47, v48, v49, rfl, (fun _ => rfl), e42, e43, e44, e45, e46, e47, e48, e49, hw⟩
        | 1, _ =>
         exact i_val rfl (.int .i64 age) w' (by rfl) (by go_simp) ⟨v41, (.int .i64 age), v43, v44, v45, v46, v47, v48, v49, rfl, e41, (fun _ => rfl), e43, e44, e45, e46, e47, e48, e49, hw⟩
        | 2, _ =>
         exact i_val rfl (.pointer (some ⟨b3, 2, none⟩)) w' (by rfl) (by go_simp) ⟨v41, v42, (.pointer (some ⟨b3, 2, none⟩)), v44, v45, v46, v47, v48, v49, rfl, e41, e42, (fun _ => rfl), e44, e45, e46, e47, e48, e49, hw⟩
        | 3, _ =>
         have e43x := e43 (haft 2 (by decide))
         subst e43x
         exact i_val rfl (.int .i64 c.p2) w' (by rfl) (by have q : w'.cell? ⟨b3, 2, none⟩ = some (.int .i64 c.p2) := Kb.cell (i := 2) hw rfl (by rfl); go_simp) ⟨v41, v42, (.pointer (some ⟨b3, 2, none⟩)), (.int .i64 c.p2), v45, v46, v47, v48, v49, rfl, e41, e42, e43, (fun _ => rfl), e45, e46, e47, e48, e49, hw⟩
        | 4, _ =>
         have e44x := e44 (haft 3 (by decide))
         subst e44x
         exact i_val rfl (.int .i64 (IntKind.i64.wrap (3 * c.p2))) w' (by rfl) (by go_simp) ⟨v41, v42, v43, (.int .i64 c.p2), (.int .i64 (IntKind.i64.wrap (3 * c.p2))), v46, v47, v48, v49, rfl, e41, e42, e43, e44, (fun _ => rfl), e46, e47, e48, e49, hw⟩
        | 5, _ =>
         exact i_val rfl (.pointer (some ⟨b1, 12, none⟩)) w' (by rfl) (by go_simp) ⟨v41, v42, v43, v44, v45, (.pointer (some ⟨b1, 12, none⟩)), v47, v48, v49, rfl, e41, e42, e43, e44, e45, (fun _ => rfl), e47, e48, e49, hw⟩
        | 6, _ =>
         have e46x := e46 (haft 5 (by decide))
         subst e46x
         exact i_wp rfl (by rfl) (wp_store_cell 3 _ _ rfl ⟨b1, 12, none⟩ (.int .i64 2) rfl rfl (kb_run_set hw (i := 0) rfl 3 12 (.int .i64 (bif Lx 6 then 2 else x.p12)) (.int .i64 2) (by rfl) (fun W h1 h2 => by go_simp)) ⟨v41, v42, v43, v44, v45, (.pointer (some ⟨b1, 12, none⟩)), v47, v48, v49, rfl, e41, e42, e43, e44, e45, e46, e47, e48, e49, cast_blk (Kb.set (i := 0) hw rfl 12 (.int .i64 2)) (by rfl)⟩)
        | 7, _ =>
         exact i_val rfl (.pointer (some ⟨b1, 13, none⟩)) w' (by rfl) (by go_simp) ⟨v41, v42, v43, v44, v45, v46, (.pointer (some ⟨b1, 13, none⟩)), v48, v49, rfl, e41, e42, e43, e44, e45, e46, (fun _ => rfl), e48, e49, hw⟩
        | 8, _ =>
         have e47x := e47 (haft 7 (by decide))
         subst e47x
         have e41x := e41 (haft 0 (by decide))
         subst e41x
         exact i_wp rfl (by rfl) (wp_store_mid 71 _ _ rfl b1 13 (vcA v) rfl rfl ((Kb.at (i := 0) hw rfl).thereN 13 4 (Nat.le_of_ble_eq_true (by kernel_rfl))) (sizeV) (by kernel_rfl) ⟨(.agg (vcA v)), v42, v43, v44, v45, v46, (.pointer (some ⟨b1, 13, none⟩)), v48, v49, rfl, e41, e42, e43, e44, e45, e46, e47, e48, e49, cast_blk (Kb.mid (i := 0) hw rfl 13 (vcA v).toList) (by rfl)⟩)
        | 9, _ =>
         exact i_val rfl (.pointer (some ⟨b1, 17, none⟩)) w' (by rfl) (by go_simp) ⟨v41, v42, v43, v44, v45, v46, v47, (.pointer (some ⟨b1, 17, none⟩)), v49, rfl, e41, e42, e43, e44, e45, e46, e47, (fun _ => rfl), e49, hw⟩
        | 10, _ =>
         have e48x := e48 (haft 9 (by decide))
         subst e48x
         have e42x := e42 (haft 1 (by decide))
         subst e42x
         exact i_wp rfl (by rfl) (wp_store_cell 3 _ _ rfl ⟨b1, 17, none⟩ (.int .i64 age) rfl rfl (kb_run_set hw (i := 0) rfl 3 17 (.int .i64 (bif Lx 10 then age else x.p17)) (.int .i64 age) (by rfl) (fun W h1 h2 => by go_simp)) ⟨v41, (.int .i64 age), v43, v44, v45, v46, v47, (.pointer (some ⟨b1, 17, none⟩)), v49, rfl, e41, e42, e43, e44, e45, e46, e47, e48, e49, cast_blk (Kb.set (i := 0) hw rfl 17 (.int .i64 age)) (by rfl)⟩)
        | 11, _ =>
         exact i_val rfl (.pointer (some ⟨b1, 18, none⟩)) w' (by rfl) (by go_simp) ⟨v41, v42, v43, v44, v45, v46, v47, v48, (.pointer (some ⟨b1, 18, none⟩)), rfl, e41, e42, e43, e44, e45, e46, e47, e48, (fun _ => rfl), hw⟩
        | 12, _ =>
         have e49x := e49 (haft 11 (by decide))
         subst e49x
         have e45x := e45 (haft 4 (by decide))
         subst e45x
         exact i_wp rfl (by rfl) (wp_store_cell 3 _ _ rfl ⟨b1, 18, none⟩ (.int .i64 (IntKind.i64.wrap (3 * c.p2))) rfl rfl (kb_run_set hw (i := 0) rfl 3 18 (.int .i64 (bif Lx 12 then (IntKind.i64.wrap (3 * c.p2)) else x.p18)) (.int .i64 (IntKind.i64.wrap (3 * c.p2))) (by rfl) (fun W h1 h2 => by go_simp)) ⟨v41, v42, v43, v44, (.int .i64 (IntKind.i64.wrap (3 * c.p2))), v46, v47, v48, (.pointer (some ⟨b1, 18, none⟩)), rfl, e41, e42, e43, e44, e45, e46, e47, e48, e49, cast_blk (Kb.set (i := 0) hw rfl 18 (.int .i64 (IntKind.i64.wrap (3 * c.p2)))) (by rfl)⟩)
        | k + 13, h =>
         exfalso
         have h2 : k + 13 < 13 := h
         omega
       intro Lx ac w7 hI hall
       obtain ⟨v41, v42, v43, v44, v45, v46, v47, v48, v49, rfl, e41, e42, e43, e44, e45, e46, e47, e48, e49, hw⟩ := hI
       have e41y := e41 (hall 0 (by decide))
       subst e41y
       have e42y := e42 (hall 1 (by decide))
       subst e42y
       have e43y := e43 (hall 2 (by decide))
       subst e43y
       have e44y := e44 (hall 3 (by decide))
       subst e44y
       have e45y := e45 (hall 4 (by decide))
       subst e45y
       have e46y := e46 (hall 5 (by decide))
       subst e46y
       have e47y := e47 (hall 7 (by decide))
       subst e47y
       have e48y := e48 (hall 9 (by decide))
       subst e48y
       have e49y := e49 (hall 11 (by decide))
       subst e49y
       have hL6 := hall 6 (by decide)
       have hL8 := hall 8 (by decide)
       have hL10 := hall 10 (by decide)
       have hL12 := hall 12 (by decide)
       simp only [hL6, hL8, hL10, hL12, cond_true] at hw
       have K7 := Lib.hid hw
       clear hw hall hL6 hL8 hL10 hL12
       go_upto_region 9 with fail
       refine lz (wz2 (.agg (poA { x with p12 := 2, p13 := (v.r : Nat), p14 := (v.c : Nat), p15 := (v.b : Nat), p16 := (v.p : Nat), p17 := age, p18 := (IntKind.i64.wrap (3 * c.p2)) })) (iV 2) (h1 := by exact kb_all K7.out 0 rfl 73 _ rfl rfl Tryd.underlying73 rfl (size50)) (h := ?_))
       refine kb_row K7.out 3 rfl 73 _ _ (poA { x with p12 := 2, p13 := (v.r : Nat), p14 := (v.c : Nat), p15 := (v.b : Nat), p16 := (v.p : Nat), p17 := age, p18 := (IntKind.i64.wrap (3 * c.p2)) }) rfl rfl rfl rfl (size50) (by rfl) (po_all _) (py (h := ?_))
       intro w8 K8
       refine wz1 (iV 2) (h := nz ?_)
       go_wp2_with fail
       refine bodyPost_ret (v := .tuple #[.agg (poA { x with p12 := 2, p13 := (v.r : Nat), p14 := (v.c : Nat), p15 := (v.b : Nat), p16 := (v.p : Nat), p17 := age, p18 := (IntKind.i64.wrap (3 * c.p2)) }), .int .i64 2]) (results_row_tmp Tryd.results47 _ _ b4 73 (poA { x with p12 := 2, p13 := (v.r : Nat), p14 := (v.c : Nat), p15 := (v.b : Nat), p16 := (v.p : Nat), p17 := age, p18 := (IntKind.i64.wrap (3 * c.p2)) }) (.int .i64 2) _ rfl rfl (K8.out.at (i := 3) rfl) Tryd.underlying73 rfl (po_info _)) rfl ?_
       exact ⟨rfl, K8.out.below⟩
end
end Go.Proofs.YteeinlbhcdpnnaaDoor
