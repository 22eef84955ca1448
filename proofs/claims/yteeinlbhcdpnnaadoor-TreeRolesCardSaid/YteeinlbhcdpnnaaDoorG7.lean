import Derived.Test.YteeinlbhcdpnnaaDoorG4
import Derived.Test.YteeinlbhcdpnnaaDoorG2
import Derived.Test.YteeinlbhcdpnnaaDoorG6
set_option linter.unusedSimpArgs false
set_option linter.unusedVariables false
namespace Go.Proofs.YteeinlbhcdpnnaaDoor
section
open Go.RowKit
attribute [local irreducible] wpQuiet wpList
set_option maxRecDepth 100000 in
set_option maxHeartbeats 8000000 in
theorem assume_any (x : Po) (u : Vc) (r : Int) (v : Vc) (c : Cf) (w : World) : Calls Tryd.prog 56 #[poV (poU x u), .int .i64 r, vcV v, cfV c] w fun e w' => e = .returned (.tuple #[poV (assumeP x u r v c.p3), .bool (assumeN x u r v), .bool (openedB x (assumeP x u r v c.p3))]) ∧ Below w.heap.size w w' := by
 obtain ⟨Q, hQ⟩ : ∃ Q, Q = assumeP x u r v c.p3 := ⟨_, rfl⟩
 obtain ⟨an, hA⟩ : ∃ b, b = assumeN x u r v := ⟨_, rfl⟩
 obtain ⟨op, hO⟩ : ∃ b, b = openedB x Q := ⟨_, rfl⟩
 rw [← hQ, ← hA, ← hO]
 have HO := Lib.hid (show openedB (poU x u) Q = op from hO.symm)
 clear hO
 unfold poU at HO ⊢
 by_cases h1 : r = 1
 case pos =>
  have hq : Q = restP (roleP x u 1) 0 := by rw [hQ]; simp [assumeP, h1]
  have ha : an = false := by rw [hA]; simp [assumeN, h1]
  clear hQ hA
  subst ha
  subst h1
  have HQ := Lib.hid hq
  clear hq
  have K := Lib.hid (Kb.nil w)
  go_enter Tryd.func56, Tryd.ntmps56
  go_upto_region 0 with fail
  refine wp_region_lit ?_
  refine kb_box K.out 73 (.tmp 0) (poA { x with p13 := (u.r : Nat), p14 := (u.c : Nat), p15 := (u.b : Nat), p16 := (u.p : Nat) }) rfl rfl (by rfl) (pz (h := ?_))
  intro b1 w1 K1
  refine kb_box K1.out 71 (.tmp 2) (vcA v) rfl rfl (by rfl) (pz (h := ?_))
  intro b2 w2 K2
  refine kb_box K2.out 31 (.tmp 3) (cfA c) rfl rfl (by rfl) (pz (h := ?_))
  intro b3 w3 K3
  refine kb_alloc K3.out 73 (nil21) rfl z50 (by rfl) (pz (h := ?_))
  intro b4 w4 K4
  refine wz2 (.bool false) (.bool false) (h := nz ?_)
  go_upto_region 1 with fail
  refine lz (wz1 (.agg (poA { x with p13 := (u.r : Nat), p14 := (u.c : Nat), p15 := (u.b : Nat), p16 := (u.p : Nat) })) (h1 := by exact kb_all K4.out 0 rfl 73 _ rfl rfl Tryd.underlying73 rfl (size50)) (h := ?_))
  refine kb_alloc K4.out 73 (nil21) rfl z50 (by rfl) (pz (h := ?_))
  intro b5 w5 K5
  refine kb_row K5.out 4 rfl 73 _ _ (poA { x with p13 := (u.r : Nat), p14 := (u.c : Nat), p15 := (u.b : Nat), p16 := (u.p : Nat) }) rfl rfl rfl rfl (size50) (by rfl) (po_all _) (py (h := ?_))
  intro w6 K6
  refine wz1 (.bool false) (h := nz ?_)
  go_upto_region 2 with fail
  refine lz (wz2 (iV 1) (pT b1 10) (h := ?_))
  refine kb_set K6.out 0 rfl 3 _ _ 10 (.int .i64 1) rfl (by rfl) rfl rfl (kb_run_set K6.out (i := 0) rfl 3 10 (.int .i64 x.p10) (.int .i64 1) (by rfl) (fun W h1 h2 => by go_simp)) (poA { x with p10 := 1, p13 := (u.r : Nat), p14 := (u.c : Nat), p15 := (u.b : Nat), p16 := (u.p : Nat) }) (by kernel_rfl) (py (h := ?_))
  intro w7 K7
  refine wpList_nil ?_
  go_upto_region 3 with fail
  refine lz (wz1 (iV 1) (h := nz ?_))
  go_upto_region 4 with fail
  refine lz (wz2 (.bool true) (.bool true) (h := nz ?_))
  go_upto_region 6 with fail
  refine lz (wz1 (.agg (poA { x with p10 := 1, p13 := (u.r : Nat), p14 := (u.c : Nat), p15 := (u.b : Nat), p16 := (u.p : Nat) })) (h1 := by exact kb_all K7.out 0 rfl 73 _ rfl rfl Tryd.underlying73 rfl (size50)) (h := ?_))
  refine kb_call K7.out 72 #[.agg (poA { x with p10 := 1, p13 := (u.r : Nat), p14 := (u.c : Nat), p15 := (u.b : Nat), p16 := (u.p : Nat) }), .int .i64 0] (.agg (poA Q)) (by rfl) (by go_simp) (rest_is { x with p10 := 1, p13 := (u.r : Nat), p14 := (u.c : Nat), p15 := (u.b : Nat), p16 := (u.p : Nat) } 0 Q HQ.out.symm w7) (py (h := ?_))
  intro w8 K8
  refine kb_row K8.out 0 rfl 73 _ _ (poA Q) rfl rfl rfl rfl (size50) (by rfl) (po_all _) (py (h := ?_))
  intro w9 K9
  refine wpList_nil ?_
  go_upto_region 12 with fail
  refine rk (fun (_ : Unit) => [.agg (poA Q), .bool false, .agg (poA { x with p13 := (u.r : Nat), p14 := (u.c : Nat), p15 := (u.b : Nat), p16 := (u.p : Nat) }), .agg (poA Q), .bool op, undef, .bool false, .bool op]) (fun _ Lx w' => Kb w [(b1, poA Q, 73), (b2, vcA v, 71), (b3, cfA c, 31), (b4, bif Lx 5 then poA Q else nil21, 73), (b5, poA { x with p13 := (u.r : Nat), p14 := (u.c : Nat), p15 := (u.b : Nat), p16 := (u.p : Nat) }, 73)] w') (()) [] [] [(0, fun _ => [(4, pT b1 0)]), (2, fun _ => [(11, pT b5 0)]), (3, fun _ => [(4, pT b1 0)]), (4, fun _ => [(40, .agg (poA { x with p13 := (u.r : Nat), p14 := (u.c : Nat), p15 := (u.b : Nat), p16 := (u.p : Nat) })), (41, .agg (poA Q))]), (5, fun _ => [(8, pT b4 0), (38, .agg (poA Q))])] [5] (K9.out.drew) (fun _ _ _ _ => trivial) (fun _ L1 L2 _ e h => by (try dsimp only at h ⊢); rw [← e 5 (by decide)]; exact h) ?_ ?_
  ·
   refine ⟨?_, ?_, ?_, ?_, ?_, trivial⟩ <;> (rintro _ Lx w' hw hL haft hdc ρ hc hf hG hs o ho; cases ho; try dsimp only [pT, iV, seen] at hw hs)
   ·
    obtain ⟨e4, _⟩ := hs
    exact sq (.agg (poA Q)) (l_var 73 _ rfl _ e4 _ _ _ (Kb.at (i := 0) hw rfl) Tryd.underlying73 rfl (size50))
   ·
    obtain ⟨e11, _⟩ := hs
    exact sq (.agg (poA { x with p13 := (u.r : Nat), p14 := (u.c : Nat), p15 := (u.b : Nat), p16 := (u.p : Nat) })) (l_var 73 _ rfl _ e11 _ _ _ (Kb.at (i := 4) hw rfl) Tryd.underlying73 rfl (size50))
   ·
    obtain ⟨e4, _⟩ := hs
    exact sq (.agg (poA Q)) (l_var 73 _ rfl _ e4 _ _ _ (Kb.at (i := 0) hw rfl) Tryd.underlying73 rfl (size50))
   ·
    exact sc (.bool op) 62 #[.agg (poA { x with p13 := (u.r : Nat), p14 := (u.c : Nat), p15 := (u.b : Nat), p16 := (u.p : Nat) }), .agg (poA Q)] (opened_is { x with p13 := (u.r : Nat), p14 := (u.c : Nat), p15 := (u.b : Nat), p16 := (u.p : Nat) } Q op HO.out w') (by go_simp) (fun w2 hb => ⟨(), fun _ _ => rfl, rfl, hw.next hb⟩)
   ·
    obtain ⟨e8, e38, _⟩ := hs
    exact sr 73 _ _ rfl b4 (poA Q) e8 e38 73 (bif Lx 5 then poA Q else nil21) (Kb.at (i := 3) hw rfl) (size50) (by rw [hL]; rfl) (po_all _) ⟨(), fun _ _ => rfl, rfl, cast_blk (Kb.row (i := 3) hw rfl (poA Q)) (by rfl)⟩
  intro _ Lx w10 hw hall
  try dsimp only at hw
  simp only [pT, iV, List.toList_toArray, putsZ_some, putsZ_none, putsZ_nil, List.setIfInBounds_toArray, List.set_cons_zero, List.set_cons_succ]
  have hL5 := hall 5 (by decide)
  simp only [hL5, cond_true] at hw
  have K10 := Lib.hid hw
  clear hw hall hL5
  go_wp2_with fail
  refine bodyPost_ret (v := .tuple #[.agg (poA Q), .bool false, .bool op]) (results_row_tmp2 Tryd.results56 _ _ b4 73 (poA Q) (.bool false) (.bool op) _ rfl rfl rfl (K10.out.at (i := 3) rfl) Tryd.underlying73 rfl (po_info _)) rfl ?_
  exact ⟨rfl, K10.out.below⟩
 case neg =>
  by_cases h2 : r = 2
  case pos =>
   have hq : Q = restP (roleP x u 2) 0 := by rw [hQ]; simp [assumeP, h1, h2]
   have ha : an = false := by rw [hA]; simp [assumeN, h1, h2]
   clear hQ hA
   subst ha
   subst h2
   have HQ := Lib.hid hq
   clear hq
   have K := Lib.hid (Kb.nil w)
   go_enter Tryd.func56, Tryd.ntmps56
   go_upto_region 0 with fail
   refine wp_region_lit ?_
   refine kb_box K.out 73 (.tmp 0) (poA { x with p13 := (u.r : Nat), p14 := (u.c : Nat), p15 := (u.b : Nat), p16 := (u.p : Nat) }) rfl rfl (by rfl) (pz (h := ?_))
   intro b1 w1 K1
   refine kb_box K1.out 71 (.tmp 2) (vcA v) rfl rfl (by rfl) (pz (h := ?_))
   intro b2 w2 K2
   refine kb_box K2.out 31 (.tmp 3) (cfA c) rfl rfl (by rfl) (pz (h := ?_))
   intro b3 w3 K3
   refine kb_alloc K3.out 73 (nil21) rfl z50 (by rfl) (pz (h := ?_))
   intro b4 w4 K4
   refine wz2 (.bool false) (.bool false) (h := nz ?_)
   go_upto_region 1 with fail
   refine lz (wz1 (.agg (poA { x with p13 := (u.r : Nat), p14 := (u.c : Nat), p15 := (u.b : Nat), p16 := (u.p : Nat) })) (h1 := by exact kb_all K4.out 0 rfl 73 _ rfl rfl Tryd.underlying73 rfl (size50)) (h := ?_))
   refine kb_alloc K4.out 73 (nil21) rfl z50 (by rfl) (pz (h := ?_))
   intro b5 w5 K5
   refine kb_row K5.out 4 rfl 73 _ _ (poA { x with p13 := (u.r : Nat), p14 := (u.c : Nat), p15 := (u.b : Nat), p16 := (u.p : Nat) }) rfl rfl rfl rfl (size50) (by rfl) (po_all _) (py (h := ?_))
   intro w6 K6
   refine wz1 (.bool false) (h := nz ?_)
   go_upto_region 2 with fail
   refine lz (wz2 (iV 2) (pT b1 10) (h := ?_))
   refine kb_set K6.out 0 rfl 3 _ _ 10 (.int .i64 2) rfl (by rfl) rfl rfl (kb_run_set K6.out (i := 0) rfl 3 10 (.int .i64 x.p10) (.int .i64 2) (by rfl) (fun W h1 h2 => by go_simp)) (poA { x with p10 := 2, p13 := (u.r : Nat), p14 := (u.c : Nat), p15 := (u.b : Nat), p16 := (u.p : Nat) }) (by kernel_rfl) (py (h := ?_))
   intro w7 K7
   refine wpList_nil ?_
   go_upto_region 3 with fail
   refine lz (wz1 (iV 2) (h := nz ?_))
   go_upto_region 4 with fail
   refine lz (wz2 (.bool false) (.bool false) (h := nz ?_))
   go_upto_region 5 with fail
   refine lz (wz2 (.bool true) (.bool true) (h := nz ?_))
   go_upto_region 6 with fail
   refine lz (wz1 (.agg (poA { x with p10 := 2, p13 := (u.r : Nat), p14 := (u.c : Nat), p15 := (u.b : Nat), p16 := (u.p : Nat) })) (h1 := by exact kb_all K7.out 0 rfl 73 _ rfl rfl Tryd.underlying73 rfl (size50)) (h := ?_))
   refine kb_call K7.out 72 #[.agg (poA { x with p10 := 2, p13 := (u.r : Nat), p14 := (u.c : Nat), p15 := (u.b : Nat), p16 := (u.p : Nat) }), .int .i64 0] (.agg (poA Q)) (by rfl) (by go_simp) (rest_is { x with p10 := 2, p13 := (u.r : Nat), p14 := (u.c : Nat), p15 := (u.b : Nat), p16 := (u.p : Nat) } 0 Q HQ.out.symm w7) (py (h := ?_))
   intro w8 K8
   refine kb_row K8.out 0 rfl 73 _ _ (poA Q) rfl rfl rfl rfl (size50) (by rfl) (po_all _) (py (h := ?_))
   intro w9 K9
   refine wpList_nil ?_
   go_upto_region 12 with fail
   refine rk (fun (_ : Unit) => [.agg (poA Q), .bool false, .agg (poA { x with p13 := (u.r : Nat), p14 := (u.c : Nat), p15 := (u.b : Nat), p16 := (u.p : Nat) }), .agg (poA Q), .bool op, undef, .bool false, .bool op]) (fun _ Lx w' => Kb w [(b1, poA Q, 73), (b2, vcA v, 71), (b3, cfA c, 31), (b4, bif Lx 5 then poA Q else nil21, 73), (b5, poA { x with p13 := (u.r : Nat), p14 := (u.c : Nat), p15 := (u.b : Nat), p16 := (u.p : Nat) }, 73)] w') (()) [] [] [(0, fun _ => [(4, pT b1 0)]), (2, fun _ => [(11, pT b5 0)]), (3, fun _ => [(4, pT b1 0)]), (4, fun _ => [(40, .agg (poA { x with p13 := (u.r : Nat), p14 := (u.c : Nat), p15 := (u.b : Nat), p16 := (u.p : Nat) })), (41, .agg (poA Q))]), (5, fun _ => [(8, pT b4 0), (38, .agg (poA Q))])] [5] (K9.out.drew) (fun _ _ _ _ => trivial) (fun _ L1 L2 _ e h => by (try dsimp only at h ⊢); rw [← e 5 (by decide)]; exact h) ?_ ?_
   ·
    refine ⟨?_, ?_, ?_, ?_, ?_, trivial⟩ <;> (rintro _ Lx w' hw hL haft hdc ρ hc hf hG hs o ho; cases ho; try dsimp only [pT, iV, seen] at hw hs)
    ·
     obtain ⟨e4, _⟩ := hs
     exact sq (.agg (poA Q)) (l_var 73 _ rfl _ e4 _ _ _ (Kb.at (i := 0) hw rfl) Tryd.underlying73 rfl (size50))
    ·
     obtain ⟨e11, _⟩ := hs
     exact sq (.agg (poA { x with p13 := (u.r : Nat), p14 := (u.c : Nat), p15 := (u.b : Nat), p16 := (u.p : Nat) })) (l_var 73 _ rfl _ e11 _ _ _ (Kb.at (i := 4) hw rfl) Tryd.underlying73 rfl (size50))
    ·
     obtain ⟨e4, _⟩ := hs
     exact sq (.agg (poA Q)) (l_var 73 _ rfl _ e4 _ _ _ (Kb.at (i := 0) hw rfl) Tryd.underlying73 rfl (size50))
    ·
     exact sc (.bool op) 62 #[.agg (poA { x with p13 := (u.r : Nat), p14 := (u.c : Nat), p15 := (u.b : Nat), p16 := (u.p : Nat) }), .agg (poA Q)] (opened_is { x with p13 := (u.r : Nat), p14 := (u.c : Nat), p15 := (u.b : Nat), p16 := (u.p : Nat) } Q op HO.out w') (by go_simp) (fun w2 hb => ⟨(), fun _ _ => rfl, rfl, hw.next hb⟩)
    ·
     obtain ⟨e8, e38, _⟩ := hs
     exact sr 73 _ _ rfl b4 (poA Q) e8 e38 73 (bif Lx 5 then poA Q else nil21) (Kb.at (i := 3) hw rfl) (size50) (by rw [hL]; rfl) (po_all _) ⟨(), fun _ _ => rfl, rfl, cast_blk (Kb.row (i := 3) hw rfl (poA Q)) (by rfl)⟩
   intro _ Lx w10 hw hall
   try dsimp only at hw
   simp only [pT, iV, List.toList_toArray, putsZ_some, putsZ_none, putsZ_nil, List.setIfInBounds_toArray, List.set_cons_zero, List.set_cons_succ]
   have hL5 := hall 5 (by decide)
   simp only [hL5, cond_true] at hw
   have K10 := Lib.hid hw
   clear hw hall hL5
   go_wp2_with fail
   refine bodyPost_ret (v := .tuple #[.agg (poA Q), .bool false, .bool op]) (results_row_tmp2 Tryd.results56 _ _ b4 73 (poA Q) (.bool false) (.bool op) _ rfl rfl rfl (K10.out.at (i := 3) rfl) Tryd.underlying73 rfl (po_info _)) rfl ?_
   exact ⟨rfl, K10.out.below⟩
  case neg =>
   by_cases h3 : r = 3
   case pos =>
    by_cases h33 : x.p10 = 3
    case pos =>
     have hq : Q = roleP x u 3 := by rw [hQ]; simp [assumeP, h1, h2, h3, h33]
     have ha : an = false := by rw [hA]; simp [assumeN, h1, h2, h3, h33]
     clear hQ hA
     subst ha
     subst h3
     have HQ := Lib.hid hq
     clear hq
     have K := Lib.hid (Kb.nil w)
     go_enter Tryd.func56, Tryd.ntmps56
     go_upto_region 0 with fail
     refine wp_region_lit ?_
     refine kb_box K.out 73 (.tmp 0) (poA { x with p13 := (u.r : Nat), p14 := (u.c : Nat), p15 := (u.b : Nat), p16 := (u.p : Nat) }) rfl rfl (by rfl) (pz (h := ?_))
     intro b1 w1 K1
     refine kb_box K1.out 71 (.tmp 2) (vcA v) rfl rfl (by rfl) (pz (h := ?_))
     intro b2 w2 K2
     refine kb_box K2.out 31 (.tmp 3) (cfA c) rfl rfl (by rfl) (pz (h := ?_))
     intro b3 w3 K3
     refine kb_alloc K3.out 73 (nil21) rfl z50 (by rfl) (pz (h := ?_))
     intro b4 w4 K4
     refine wz2 (.bool false) (.bool false) (h := nz ?_)
     go_upto_region 1 with fail
     refine lz (wz1 (.agg (poA { x with p13 := (u.r : Nat), p14 := (u.c : Nat), p15 := (u.b : Nat), p16 := (u.p : Nat) })) (h1 := by exact kb_all K4.out 0 rfl 73 _ rfl rfl Tryd.underlying73 rfl (size50)) (h := ?_))
     refine kb_alloc K4.out 73 (nil21) rfl z50 (by rfl) (pz (h := ?_))
     intro b5 w5 K5
     refine kb_row K5.out 4 rfl 73 _ _ (poA { x with p13 := (u.r : Nat), p14 := (u.c : Nat), p15 := (u.b : Nat), p16 := (u.p : Nat) }) rfl rfl rfl rfl (size50) (by rfl) (po_all _) (py (h := ?_))
     intro w6 K6
     refine wz1 (.bool false) (h := nz ?_)
     go_upto_region 2 with fail
     refine lz (wz2 (iV 3) (pT b1 10) (h := ?_))
     refine kb_set K6.out 0 rfl 3 _ _ 10 (.int .i64 3) rfl (by rfl) rfl rfl (kb_run_set K6.out (i := 0) rfl 3 10 (.int .i64 x.p10) (.int .i64 3) (by rfl) (fun W h1 h2 => by go_simp)) (poA { x with p10 := 3, p13 := (u.r : Nat), p14 := (u.c : Nat), p15 := (u.b : Nat), p16 := (u.p : Nat) }) (by kernel_rfl) (py (h := ?_))
     intro w7 K7
     refine wpList_nil ?_
     go_upto_region 3 with fail
     refine lz (wz1 (iV 3) (h := nz ?_))
     go_upto_region 4 with fail
     refine lz (wz2 (.bool false) (.bool false) (h := nz ?_))
     go_upto_region 5 with fail
     refine lz (wz2 (.bool false) (.bool false) (h := nz ?_))
     go_upto_region 7 with fail
     refine lz (wz2 (.bool true) (.bool true) (h := nz ?_))
     go_upto_region 8 with fail
     refine lz (wz3 (pT b5 10) (iV x.p10) (.bool false) (h2 := by have q : w7.cell? ⟨b5, 10, none⟩ = some (iV x.p10) := K7.out.cell (i := 4) rfl (by rfl); go_simp) (h3 := by have q := h33; go_simp) (h := nz ?_))
     have hQq : poA Q = poA { x with p10 := 3, p13 := (u.r : Nat), p14 := (u.c : Nat), p15 := (u.b : Nat), p16 := (u.p : Nat) } := by rw [HQ.out]; rfl
     have KQ := Lib.hid (show Kb w [(b1, poA Q, 73), (b2, vcA v, 71), (b3, cfA c, 31), (b4, nil21, 73), (b5, poA { x with p13 := (u.r : Nat), p14 := (u.c : Nat), p15 := (u.b : Nat), p16 := (u.p : Nat) }, 73)] w7 from by rw [hQq]; exact K7.out)
     clear hQq
     go_upto_region 12 with fail
     refine rk (fun (_ : Unit) => [.agg (poA Q), .bool false, .agg (poA { x with p13 := (u.r : Nat), p14 := (u.c : Nat), p15 := (u.b : Nat), p16 := (u.p : Nat) }), .agg (poA Q), .bool op, undef, .bool false, .bool op]) (fun _ Lx w' => Kb w [(b1, poA Q, 73), (b2, vcA v, 71), (b3, cfA c, 31), (b4, bif Lx 5 then poA Q else nil21, 73), (b5, poA { x with p13 := (u.r : Nat), p14 := (u.c : Nat), p15 := (u.b : Nat), p16 := (u.p : Nat) }, 73)] w') (()) [] [] [(0, fun _ => [(4, pT b1 0)]), (2, fun _ => [(11, pT b5 0)]), (3, fun _ => [(4, pT b1 0)]), (4, fun _ => [(40, .agg (poA { x with p13 := (u.r : Nat), p14 := (u.c : Nat), p15 := (u.b : Nat), p16 := (u.p : Nat) })), (41, .agg (poA Q))]), (5, fun _ => [(8, pT b4 0), (38, .agg (poA Q))])] [5] (KQ.out.drew) (fun _ _ _ _ => trivial) (fun _ L1 L2 _ e h => by (try dsimp only at h ⊢); rw [← e 5 (by decide)]; exact h) ?_ ?_
     ·
      refine ⟨?_, ?_, ?_, ?_, ?_, trivial⟩ <;> (rintro _ Lx w' hw hL haft hdc ρ hc hf hG hs o ho; cases ho; try dsimp only [pT, iV, seen] at hw hs)
      ·
       obtain ⟨e4, _⟩ := hs
       exact sq (.agg (poA Q)) (l_var 73 _ rfl _ e4 _ _ _ (Kb.at (i := 0) hw rfl) Tryd.underlying73 rfl (size50))
      ·
       obtain ⟨e11, _⟩ := hs
       exact sq (.agg (poA { x with p13 := (u.r : Nat), p14 := (u.c : Nat), p15 := (u.b : Nat), p16 := (u.p : Nat) })) (l_var 73 _ rfl _ e11 _ _ _ (Kb.at (i := 4) hw rfl) Tryd.underlying73 rfl (size50))
      ·
       obtain ⟨e4, _⟩ := hs
       exact sq (.agg (poA Q)) (l_var 73 _ rfl _ e4 _ _ _ (Kb.at (i := 0) hw rfl) Tryd.underlying73 rfl (size50))
      ·
       exact sc (.bool op) 62 #[.agg (poA { x with p13 := (u.r : Nat), p14 := (u.c : Nat), p15 := (u.b : Nat), p16 := (u.p : Nat) }), .agg (poA Q)] (opened_is { x with p13 := (u.r : Nat), p14 := (u.c : Nat), p15 := (u.b : Nat), p16 := (u.p : Nat) } Q op HO.out w') (by go_simp) (fun w2 hb => ⟨(), fun _ _ => rfl, rfl, hw.next hb⟩)
      ·
       obtain ⟨e8, e38, _⟩ := hs
       exact sr 73 _ _ rfl b4 (poA Q) e8 e38 73 (bif Lx 5 then poA Q else nil21) (Kb.at (i := 3) hw rfl) (size50) (by rw [hL]; rfl) (po_all _) ⟨(), fun _ _ => rfl, rfl, cast_blk (Kb.row (i := 3) hw rfl (poA Q)) (by rfl)⟩
     intro _ Lx w8 hw hall
     try dsimp only at hw
     simp only [pT, iV, List.toList_toArray, putsZ_some, putsZ_none, putsZ_nil, List.setIfInBounds_toArray, List.set_cons_zero, List.set_cons_succ]
     have hL5 := hall 5 (by decide)
     simp only [hL5, cond_true] at hw
     have K8 := Lib.hid hw
     clear hw hall hL5
     go_wp2_with fail
     refine bodyPost_ret (v := .tuple #[.agg (poA Q), .bool false, .bool op]) (results_row_tmp2 Tryd.results56 _ _ b4 73 (poA Q) (.bool false) (.bool op) _ rfl rfl rfl (K8.out.at (i := 3) rfl) Tryd.underlying73 rfl (po_info _)) rfl ?_
     exact ⟨rfl, K8.out.below⟩
    case neg =>
     have hq : Q = restP (roleP x u 3) 2 := by rw [hQ]; simp [assumeP, h1, h2, h3, h33]
     have ha : an = false := by rw [hA]; simp [assumeN, h1, h2, h3, h33]
     clear hQ hA
     subst ha
     subst h3
     have HQ := Lib.hid hq
     clear hq
     have K := Lib.hid (Kb.nil w)
     go_enter Tryd.func56, Tryd.ntmps56
     go_upto_region 0 with fail
     refine wp_region_lit ?_
     refine kb_box K.out 73 (.tmp 0) (poA { x with p13 := (u.r : Nat), p14 := (u.c : Nat), p15 := (u.b : Nat), p16 := (u.p : Nat) }) rfl rfl (by rfl) (pz (h := ?_))
     intro b1 w1 K1
     refine kb_box K1.out 71 (.tmp 2) (vcA v) rfl rfl (by rfl) (pz (h := ?_))
     intro b2 w2 K2
     refine kb_box K2.out 31 (.tmp 3) (cfA c) rfl rfl (by rfl) (pz (h := ?_))
     intro b3 w3 K3
     refine kb_alloc K3.out 73 (nil21) rfl z50 (by rfl) (pz (h := ?_))
     intro b4 w4 K4
     refine wz2 (.bool false) (.bool false) (h := nz ?_)
     go_upto_region 1 with fail
     refine lz (wz1 (.agg (poA { x with p13 := (u.r : Nat), p14 := (u.c : Nat), p15 := (u.b : Nat), p16 := (u.p : Nat) })) (h1 := by exact kb_all K4.out 0 rfl 73 _ rfl rfl Tryd.underlying73 rfl (size50)) (h := ?_))
     refine kb_alloc K4.out 73 (nil21) rfl z50 (by rfl) (pz (h := ?_))
     intro b5 w5 K5
     refine kb_row K5.out 4 rfl 73 _ _ (poA { x with p13 := (u.r : Nat), p14 := (u.c : Nat), p15 := (u.b : Nat), p16 := (u.p : Nat) }) rfl rfl rfl rfl (size50) (by rfl) (po_all _) (py (h := ?_))
     intro w6 K6
     refine wz1 (.bool false) (h := nz ?_)
     go_upto_region 2 with fail
     refine lz (wz2 (iV 3) (pT b1 10) (h := ?_))
     refine kb_set K6.out 0 rfl 3 _ _ 10 (.int .i64 3) rfl (by rfl) rfl rfl (kb_run_set K6.out (i := 0) rfl 3 10 (.int .i64 x.p10) (.int .i64 3) (by rfl) (fun W h1 h2 => by go_simp)) (poA { x with p10 := 3, p13 := (u.r : Nat), p14 := (u.c : Nat), p15 := (u.b : Nat), p16 := (u.p : Nat) }) (by kernel_rfl) (py (h := ?_))
     intro w7 K7
     refine wpList_nil ?_
     go_upto_region 3 with fail
     refine lz (wz1 (iV 3) (h := nz ?_))
     go_upto_region 4 with fail
     refine lz (wz2 (.bool false) (.bool false) (h := nz ?_))
     go_upto_region 5 with fail
     refine lz (wz2 (.bool false) (.bool false) (h := nz ?_))
     go_upto_region 7 with fail
     refine lz (wz2 (.bool true) (.bool true) (h := nz ?_))
     go_upto_region 8 with fail
     refine lz (wz3 (pT b5 10) (iV x.p10) (.bool true) (h2 := by have q : w7.cell? ⟨b5, 10, none⟩ = some (iV x.p10) := K7.out.cell (i := 4) rfl (by rfl); go_simp) (h3 := by have q := h33; go_simp) (h := nz ?_))
     go_upto_region 9 with fail
     refine lz (wz1 (.agg (poA { x with p10 := 3, p13 := (u.r : Nat), p14 := (u.c : Nat), p15 := (u.b : Nat), p16 := (u.p : Nat) })) (h1 := by exact kb_all K7.out 0 rfl 73 _ rfl rfl Tryd.underlying73 rfl (size50)) (h := ?_))
     refine kb_call K7.out 72 #[.agg (poA { x with p10 := 3, p13 := (u.r : Nat), p14 := (u.c : Nat), p15 := (u.b : Nat), p16 := (u.p : Nat) }), .int .i64 2] (.agg (poA Q)) (by rfl) (by go_simp) (rest_is { x with p10 := 3, p13 := (u.r : Nat), p14 := (u.c : Nat), p15 := (u.b : Nat), p16 := (u.p : Nat) } 2 Q HQ.out.symm w7) (py (h := ?_))
     intro w8 K8
     refine kb_row K8.out 0 rfl 73 _ _ (poA Q) rfl rfl rfl rfl (size50) (by rfl) (po_all _) (py (h := ?_))
     intro w9 K9
     refine wpList_nil ?_
     go_upto_region 12 with fail
     refine rk (fun (_ : Unit) => [.agg (poA Q), .bool false, .agg (poA { x with p13 := (u.r : Nat), p14 := (u.c : Nat), p15 := (u.b : Nat), p16 := (u.p : Nat) }), .agg (poA Q), .bool op, undef, .bool false, .bool op]) (fun _ Lx w' => Kb w [(b1, poA Q, 73), (b2, vcA v, 71), (b3, cfA c, 31), (b4, bif Lx 5 then poA Q else nil21, 73), (b5, poA { x with p13 := (u.r : Nat), p14 := (u.c : Nat), p15 := (u.b : Nat), p16 := (u.p : Nat) }, 73)] w') (()) [] [] [(0, fun _ => [(4, pT b1 0)]), (2, fun _ => [(11, pT b5 0)]), (3, fun _ => [(4, pT b1 0)]), (4, fun _ => [(40, .agg (poA { x with p13 := (u.r : Nat), p14 := (u.c : Nat), p15 := (u.b : Nat), p16 := (u.p : Nat) })), (41, .agg (poA Q))]), (5, fun _ => [(8, pT b4 0), (38, .agg (poA Q))])] [5] (K9.out.drew) (fun _ _ _ _ => trivial) (fun _ L1 L2 _ e h => by (try dsimp only at h ⊢); rw [← e 5 (by decide)]; exact h) ?_ ?_
     ·
      refine ⟨?_, ?_, ?_, ?_, ?_, trivial⟩ <;> (rintro _ Lx w' hw hL haft hdc ρ hc hf hG hs o ho; cases ho; try dsimp only [pT, iV, seen] at hw hs)
      ·
       obtain ⟨e4, _⟩ := hs
       exact sq (.agg (poA Q)) (l_var 73 _ rfl _ e4 _ _ _ (Kb.at (i := 0) hw rfl) Tryd.underlying73 rfl (size50))
      ·
       obtain ⟨e11, _⟩ := hs
       exact sq (.agg (poA { x with p13 := (u.r : Nat), p14 := (u.c : Nat), p15 := (u.b : Nat), p16 := (u.p : Nat) })) (l_var 73 _ rfl _ e11 _ _ _ (Kb.at (i := 4) hw rfl) Tryd.underlying73 rfl (size50))
      ·
       obtain ⟨e4, _⟩ := hs
       exact sq (.agg (poA Q)) (l_var 73 _ rfl _ e4 _ _ _ (Kb.at (i := 0) hw rfl) Tryd.underlying73 rfl (size50))
      ·
       exact sc (.bool op) 62 #[.agg (poA { x with p13 := (u.r : Nat), p14 := (u.c : Nat), p15 := (u.b : Nat), p16 := (u.p : Nat) }), .agg (poA Q)] (opened_is { x with p13 := (u.r : Nat), p14 := (u.c : Nat), p15 := (u.b : Nat), p16 := (u.p : Nat) } Q op HO.out w') (by go_simp) (fun w2 hb => ⟨(), fun _ _ => rfl, rfl, hw.next hb⟩)
      ·
       obtain ⟨e8, e38, _⟩ := hs
       exact sr 73 _ _ rfl b4 (poA Q) e8 e38 73 (bif Lx 5 then poA Q else nil21) (Kb.at (i := 3) hw rfl) (size50) (by rw [hL]; rfl) (po_all _) ⟨(), fun _ _ => rfl, rfl, cast_blk (Kb.row (i := 3) hw rfl (poA Q)) (by rfl)⟩
     intro _ Lx w10 hw hall
     try dsimp only at hw
     simp only [pT, iV, List.toList_toArray, putsZ_some, putsZ_none, putsZ_nil, List.setIfInBounds_toArray, List.set_cons_zero, List.set_cons_succ]
     have hL5 := hall 5 (by decide)
     simp only [hL5, cond_true] at hw
     have K10 := Lib.hid hw
     clear hw hall hL5
     go_wp2_with fail
     refine bodyPost_ret (v := .tuple #[.agg (poA Q), .bool false, .bool op]) (results_row_tmp2 Tryd.results56 _ _ b4 73 (poA Q) (.bool false) (.bool op) _ rfl rfl rfl (K10.out.at (i := 3) rfl) Tryd.underlying73 rfl (po_info _)) rfl ?_
     exact ⟨rfl, K10.out.below⟩
   case neg =>
    by_cases h4 : r = 4
    case pos =>
     have hq : Q = desP x u v c.p3 := by rw [hQ]; simp [assumeP, h1, h2, h3, h4]
     have ha : an = desB x u v := by rw [hA]; simp [assumeN, h1, h2, h3, h4]
     clear hQ hA
     have HAN := Lib.hid ha
     clear ha
     subst h4
     have HQ := Lib.hid hq
     clear hq
     have K := Lib.hid (Kb.nil w)
     go_enter Tryd.func56, Tryd.ntmps56
     go_upto_region 0 with fail
     refine wp_region_lit ?_
     refine kb_box K.out 73 (.tmp 0) (poA { x with p13 := (u.r : Nat), p14 := (u.c : Nat), p15 := (u.b : Nat), p16 := (u.p : Nat) }) rfl rfl (by rfl) (pz (h := ?_))
     intro b1 w1 K1
     refine kb_box K1.out 71 (.tmp 2) (vcA v) rfl rfl (by rfl) (pz (h := ?_))
     intro b2 w2 K2
     refine kb_box K2.out 31 (.tmp 3) (cfA c) rfl rfl (by rfl) (pz (h := ?_))
     intro b3 w3 K3
     refine kb_alloc K3.out 73 (nil21) rfl z50 (by rfl) (pz (h := ?_))
     intro b4 w4 K4
     refine wz2 (.bool false) (.bool false) (h := nz ?_)
     go_upto_region 1 with fail
     refine lz (wz1 (.agg (poA { x with p13 := (u.r : Nat), p14 := (u.c : Nat), p15 := (u.b : Nat), p16 := (u.p : Nat) })) (h1 := by exact kb_all K4.out 0 rfl 73 _ rfl rfl Tryd.underlying73 rfl (size50)) (h := ?_))
     refine kb_alloc K4.out 73 (nil21) rfl z50 (by rfl) (pz (h := ?_))
     intro b5 w5 K5
     refine kb_row K5.out 4 rfl 73 _ _ (poA { x with p13 := (u.r : Nat), p14 := (u.c : Nat), p15 := (u.b : Nat), p16 := (u.p : Nat) }) rfl rfl rfl rfl (size50) (by rfl) (po_all _) (py (h := ?_))
     intro w6 K6
     refine wz1 (.bool false) (h := nz ?_)
     go_upto_region 2 with fail
     refine lz (wz2 (iV 4) (pT b1 10) (h := ?_))
     refine kb_set K6.out 0 rfl 3 _ _ 10 (.int .i64 4) rfl (by rfl) rfl rfl (kb_run_set K6.out (i := 0) rfl 3 10 (.int .i64 x.p10) (.int .i64 4) (by rfl) (fun W h1 h2 => by go_simp)) (poA { x with p10 := 4, p13 := (u.r : Nat), p14 := (u.c : Nat), p15 := (u.b : Nat), p16 := (u.p : Nat) }) (by kernel_rfl) (py (h := ?_))
     intro w7 K7
     refine wpList_nil ?_
     go_upto_region 3 with fail
     refine lz (wz1 (iV 4) (h := nz ?_))
     go_upto_region 4 with fail
     refine lz (wz2 (.bool false) (.bool false) (h := nz ?_))
     go_upto_region 5 with fail
     refine lz (wz2 (.bool false) (.bool false) (h := nz ?_))
     go_upto_region 7 with fail
     refine lz (wz2 (.bool false) (.bool false) (h := nz ?_))
     go_upto_region 10 with fail
     refine lz (wz2 (.bool true) (.bool true) (h := nz ?_))
     go_upto_region 11 with fail
     refine lz (wz3 (.agg (poA { x with p13 := (u.r : Nat), p14 := (u.c : Nat), p15 := (u.b : Nat), p16 := (u.p : Nat) })) (.agg (vcA v)) (.agg (cfA c)) (h1 := by exact kb_all K7.out 4 rfl 73 _ rfl rfl Tryd.underlying73 rfl (size50)) (h2 := by exact kb_all K7.out 1 rfl 71 _ rfl rfl Tryd.underlying71 rfl (sizeV)) (h3 := by exact kb_all K7.out 2 rfl 31 _ rfl rfl Tryd.underlying31 rfl (size34)) (h := ?_))
     refine kb_call K7.out 73 #[.agg (poA { x with p13 := (u.r : Nat), p14 := (u.c : Nat), p15 := (u.b : Nat), p16 := (u.p : Nat) }), .agg (vcA v), .agg (cfA c)] (.tuple #[.agg (poA Q), .bool an]) (by rfl) (by go_simp) (by have q := designate_any x u v c w7; rw [← HQ.out, ← HAN.out] at q; exact q) (py (h := ?_))
     intro w8 K8
     refine wz3 (.tuple #[.agg (poA Q), .bool an]) (.agg (poA Q)) (.bool an) (h := ?_)
     refine kb_row K8.out 0 rfl 73 _ _ (poA Q) rfl rfl rfl rfl (size50) (by rfl) (po_all _) (py (h := ?_))
     intro w9 K9
     refine wz1 (.bool an) (h := nz ?_)
     go_upto_region 12 with fail
     refine rk (fun (_ : Unit) => [.agg (poA Q), .bool an, .agg (poA { x with p13 := (u.r : Nat), p14 := (u.c : Nat), p15 := (u.b : Nat), p16 := (u.p : Nat) }), .agg (poA Q), .bool op, undef, .bool an, .bool op]) (fun _ Lx w' => Kb w [(b1, poA Q, 73), (b2, vcA v, 71), (b3, cfA c, 31), (b4, bif Lx 5 then poA Q else nil21, 73), (b5, poA { x with p13 := (u.r : Nat), p14 := (u.c : Nat), p15 := (u.b : Nat), p16 := (u.p : Nat) }, 73)] w') (()) [] [] [(0, fun _ => [(4, pT b1 0)]), (2, fun _ => [(11, pT b5 0)]), (3, fun _ => [(4, pT b1 0)]), (4, fun _ => [(40, .agg (poA { x with p13 := (u.r : Nat), p14 := (u.c : Nat), p15 := (u.b : Nat), p16 := (u.p : Nat) })), (41, .agg (poA Q))]), (5, fun _ => [(8, pT b4 0), (38, .agg (poA Q))])] [5] (K9.out.drew) (fun _ _ _ _ => trivial) (fun _ L1 L2 _ e h => by (try dsimp only at h ⊢); rw [← e 5 (by decide)]; exact h) ?_ ?_
     ·
      refine ⟨?_, ?_, ?_, ?_, ?_, trivial⟩ <;> (rintro _ Lx w' hw hL haft hdc ρ hc hf hG hs o ho; cases ho; try dsimp only [pT, iV, seen] at hw hs)
      ·
       obtain ⟨e4, _⟩ := hs
       exact sq (.agg (poA Q)) (l_var 73 _ rfl _ e4 _ _ _ (Kb.at (i := 0) hw rfl) Tryd.underlying73 rfl (size50))
      ·
       obtain ⟨e11, _⟩ := hs
       exact sq (.agg (poA { x with p13 := (u.r : Nat), p14 := (u.c : Nat), p15 := (u.b : Nat), p16 := (u.p : Nat) })) (l_var 73 _ rfl _ e11 _ _ _ (Kb.at (i := 4) hw rfl) Tryd.underlying73 rfl (size50))
      ·
       obtain ⟨e4, _⟩ := hs
       exact sq (.agg (poA Q)) (l_var 73 _ rfl _ e4 _ _ _ (Kb.at (i := 0) hw rfl) Tryd.underlying73 rfl (size50))
      ·
       exact sc (.bool op) 62 #[.agg (poA { x with p13 := (u.r : Nat), p14 := (u.c : Nat), p15 := (u.b : Nat), p16 := (u.p : Nat) }), .agg (poA Q)] (opened_is { x with p13 := (u.r : Nat), p14 := (u.c : Nat), p15 := (u.b : Nat), p16 := (u.p : Nat) } Q op HO.out w') (by go_simp) (fun w2 hb => ⟨(), fun _ _ => rfl, rfl, hw.next hb⟩)
      ·
       obtain ⟨e8, e38, _⟩ := hs
       exact sr 73 _ _ rfl b4 (poA Q) e8 e38 73 (bif Lx 5 then poA Q else nil21) (Kb.at (i := 3) hw rfl) (size50) (by rw [hL]; rfl) (po_all _) ⟨(), fun _ _ => rfl, rfl, cast_blk (Kb.row (i := 3) hw rfl (poA Q)) (by rfl)⟩
     intro _ Lx w10 hw hall
     try dsimp only at hw
     simp only [pT, iV, List.toList_toArray, putsZ_some, putsZ_none, putsZ_nil, List.setIfInBounds_toArray, List.set_cons_zero, List.set_cons_succ]
     have hL5 := hall 5 (by decide)
     simp only [hL5, cond_true] at hw
     have K10 := Lib.hid hw
     clear hw hall hL5
     go_wp2_with fail
     refine bodyPost_ret (v := .tuple #[.agg (poA Q), .bool an, .bool op]) (results_row_tmp2 Tryd.results56 _ _ b4 73 (poA Q) (.bool an) (.bool op) _ rfl rfl rfl (K10.out.at (i := 3) rfl) Tryd.underlying73 rfl (po_info _)) rfl ?_
     exact ⟨rfl, K10.out.below⟩
    case neg =>
     have hq : Q = roleP x u r := by rw [hQ]; simp [assumeP, h1, h2, h3, h4]
     have ha : an = false := by rw [hA]; simp [assumeN, h1, h2, h3, h4]
     clear hQ hA
     subst ha
     have H1 := Lib.hid h1
     have H2 := Lib.hid h2
     have H3 := Lib.hid h3
     have H4 := Lib.hid h4
     clear h1 h2 h3 h4
     have HQ := Lib.hid hq
     clear hq
     have K := Lib.hid (Kb.nil w)
     go_enter Tryd.func56, Tryd.ntmps56
     go_upto_region 0 with fail
     refine wp_region_lit ?_
     refine kb_box K.out 73 (.tmp 0) (poA { x with p13 := (u.r : Nat), p14 := (u.c : Nat), p15 := (u.b : Nat), p16 := (u.p : Nat) }) rfl rfl (by rfl) (pz (h := ?_))
     intro b1 w1 K1
     refine kb_box K1.out 71 (.tmp 2) (vcA v) rfl rfl (by rfl) (pz (h := ?_))
     intro b2 w2 K2
     refine kb_box K2.out 31 (.tmp 3) (cfA c) rfl rfl (by rfl) (pz (h := ?_))
     intro b3 w3 K3
     refine kb_alloc K3.out 73 (nil21) rfl z50 (by rfl) (pz (h := ?_))
     intro b4 w4 K4
     refine wz2 (.bool false) (.bool false) (h := nz ?_)
     go_upto_region 1 with fail
     refine lz (wz1 (.agg (poA { x with p13 := (u.r : Nat), p14 := (u.c : Nat), p15 := (u.b : Nat), p16 := (u.p : Nat) })) (h1 := by exact kb_all K4.out 0 rfl 73 _ rfl rfl Tryd.underlying73 rfl (size50)) (h := ?_))
     refine kb_alloc K4.out 73 (nil21) rfl z50 (by rfl) (pz (h := ?_))
     intro b5 w5 K5
     refine kb_row K5.out 4 rfl 73 _ _ (poA { x with p13 := (u.r : Nat), p14 := (u.c : Nat), p15 := (u.b : Nat), p16 := (u.p : Nat) }) rfl rfl rfl rfl (size50) (by rfl) (po_all _) (py (h := ?_))
     intro w6 K6
     refine wz1 (.bool false) (h := nz ?_)
     go_upto_region 2 with fail
     refine lz (wz2 (iV r) (pT b1 10) (h := ?_))
     refine kb_set K6.out 0 rfl 3 _ _ 10 (.int .i64 r) rfl (by rfl) rfl rfl (kb_run_set K6.out (i := 0) rfl 3 10 (.int .i64 x.p10) (.int .i64 r) (by rfl) (fun W h1 h2 => by go_simp)) (poA { x with p10 := r, p13 := (u.r : Nat), p14 := (u.c : Nat), p15 := (u.b : Nat), p16 := (u.p : Nat) }) (by kernel_rfl) (py (h := ?_))
     intro w7 K7
     refine wpList_nil ?_
     go_upto_region 3 with fail
     refine lz (wz1 (iV r) (h := nz ?_))
     go_upto_region 4 with fail
     refine lz (wz2 (.bool false) (.bool false) (h1 := by have q := H1.out; go_simp) (h := nz ?_))
     go_upto_region 5 with fail
     refine lz (wz2 (.bool false) (.bool false) (h1 := by have q := H2.out; go_simp) (h := nz ?_))
     go_upto_region 7 with fail
     refine lz (wz2 (.bool false) (.bool false) (h1 := by have q := H3.out; go_simp) (h := nz ?_))
     go_upto_region 10 with fail
     refine lz (wz2 (.bool false) (.bool false) (h1 := by have q := H4.out; go_simp) (h := nz ?_))
     have hQq : poA Q = poA { x with p10 := r, p13 := (u.r : Nat), p14 := (u.c : Nat), p15 := (u.b : Nat), p16 := (u.p : Nat) } := by rw [HQ.out]; rfl
     have KQ := Lib.hid (show Kb w [(b1, poA Q, 73), (b2, vcA v, 71), (b3, cfA c, 31), (b4, nil21, 73), (b5, poA { x with p13 := (u.r : Nat), p14 := (u.c : Nat), p15 := (u.b : Nat), p16 := (u.p : Nat) }, 73)] w7 from by rw [hQq]; exact K7.out)
     clear hQq
     go_upto_region 12 with fail
     refine rk (fun (_ : Unit) => [.agg (poA Q), .bool false, .agg (poA { x with p13 := (u.r : Nat), p14 := (u.c : Nat), p15 := (u.b : Nat), p16 := (u.p : Nat) }), .agg (poA Q), .bool op, undef, .bool false, .bool op]) (fun _ Lx w' => Kb w [(b1, poA Q, 73), (b2, vcA v, 71), (b3, cfA c, 31), (b4, bif Lx 5 then poA Q else nil21, 73), (b5, poA { x with p13 := (u.r : Nat), p14 := (u.c : Nat), p15 := (u.b : Nat), p16 := (u.p : Nat) }, 73)] w') (()) [] [] [(0, fun _ => [(4, pT b1 0)]), (2, fun _ => [(11, pT b5 0)]), (3, fun _ => [(4, pT b1 0)]), (4, fun _ => [(40, .agg (poA { x with p13 := (u.r : Nat), p14 := (u.c : Nat), p15 := (u.b : Nat), p16 := (u.p : Nat) })), (41, .agg (poA Q))]), (5, fun _ => [(8, pT b4 0), (38, .agg (poA Q))])] [5] (KQ.out.drew) (fun _ _ _ _ => trivial) (fun _ L1 L2 _ e h => by (try dsimp only at h ⊢); rw [← e 5 (by decide)]; exact h) ?_ ?_
     ·
      refine ⟨?_, ?_, ?_, ?_, ?_, trivial⟩ <;> (rintro _ Lx w' hw hL haft hdc ρ hc hf hG hs o ho; cases ho; try dsimp only [pT, iV, seen] at hw hs)
      ·
       obtain ⟨e4, _⟩ := hs
       exact sq (.agg (poA Q)) (l_var 73 _ rfl _ e4 _ _ _ (Kb.at (i := 0) hw rfl) Tryd.underlying73 rfl (size50))
      ·
       obtain ⟨e11, _⟩ := hs
       exact sq (.agg (poA { x with p13 := (u.r : Nat), p14 := (u.c : Nat), p15 := (u.b : Nat), p16 := (u.p : Nat) })) (l_var 73 _ rfl _ e11 _ _ _ (Kb.at (i := 4) hw rfl) Tryd.underlying73 rfl (size50))
      ·
       obtain ⟨e4, _⟩ := hs
       exact sq (.agg (poA Q)) (l_var 73 _ rfl _ e4 _ _ _ (Kb.at (i := 0) hw rfl) Tryd.underlying73 rfl (size50))
      ·
       exact sc (.bool op) 62 #[.agg (poA { x with p13 := (u.r : Nat), p14 := (u.c : Nat), p15 := (u.b : Nat), p16 := (u.p : Nat) }), .agg (poA Q)] (opened_is { x with p13 := (u.r : Nat), p14 := (u.c : Nat), p15 := (u.b : Nat), p16 := (u.p : Nat) } Q op HO.out w') (by go_simp) (fun w2 hb => ⟨(), fun _ _ => rfl, rfl, hw.next hb⟩)
      ·
       obtain ⟨e8, e38, _⟩ := hs
       exact sr 73 _ _ rfl b4 (poA Q) e8 e38 73 (bif Lx 5 then poA Q else nil21) (Kb.at (i := 3) hw rfl) (size50) (by rw [hL]; rfl) (po_all _) ⟨(), fun _ _ => rfl, rfl, cast_blk (Kb.row (i := 3) hw rfl (poA Q)) (by rfl)⟩
     intro _ Lx w8 hw hall
     try dsimp only at hw
     simp only [pT, iV, List.toList_toArray, putsZ_some, putsZ_none, putsZ_nil, List.setIfInBounds_toArray, List.set_cons_zero, List.set_cons_succ]
     have hL5 := hall 5 (by decide)
     simp only [hL5, cond_true] at hw
     have K8 := Lib.hid hw
     clear hw hall hL5
     go_wp2_with fail
     refine bodyPost_ret (v := .tuple #[.agg (poA Q), .bool false, .bool op]) (results_row_tmp2 Tryd.results56 _ _ b4 73 (poA Q) (.bool false) (.bool op) _ rfl rfl rfl (K8.out.at (i := 3) rfl) Tryd.underlying73 rfl (po_info _)) rfl ?_
     exact ⟨rfl, K8.out.below⟩
end
end Go.Proofs.YteeinlbhcdpnnaaDoor
