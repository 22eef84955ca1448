/- StateWaits. -/
import Derived.Test.YteeinlbhcdpnnaaLq1
namespace Go.Proofs.Yteeinlbhcdpnnaa
open Go.RowKit
attribute [local irreducible] wpQuiet wpList
set_option linter.unusedSimpArgs false
set_option linter.unusedVariables false

def Phase (k : Nat) (n st wt : Int) : Prop := ((k : Int) ≤ n ∧ st = 0 ∧ wt = n + 1 - k) ∨ (n < k ∧ (k : Int) ≤ 2 * n ∧ st = 1 ∧ wt = 2 * n + 1 - k) ∨ ((k : Int) = 2 * n + 1 ∧ st = 2 ∧ wt = 0)
theorem wait_p (x : Po) (v : Vc) (st wt wt' n : Int) (h0 : ¬ st = 2) (h1 : 1 < wt) (h2 : wt ≤ 100) (h3 : wt' = wt - 1) : stepP ⟨x.p0, x.p1, x.p2, x.p3, x.p4, x.p5, x.p6, x.p7, false, false, 4, st, 1, (v.r : Nat), (v.c : Nat), (v.b : Nat), (v.p : Nat), 0, 0, wt, x.p20⟩ n = ⟨x.p0, x.p1, x.p2, x.p3, x.p4, x.p5, x.p6, x.p7, false, false, 4, st, 1, (v.r : Nat), (v.c : Nat), (v.b : Nat), (v.p : Nat), 0, 0, wt', x.p20⟩ := by
  unfold stepP
  rw [if_pos rfl, if_neg h0, if_pos h1, h3, show IntKind.i64.wrap (wt - 1) = wt - 1 from wrap_i64 (by omega) (by omega)]
theorem turn_p (x : Po) (v : Vc) (n : Int) : stepP ⟨x.p0, x.p1, x.p2, x.p3, x.p4, x.p5, x.p6, x.p7, false, false, 4, 0, 1, (v.r : Nat), (v.c : Nat), (v.b : Nat), (v.p : Nat), 0, 0, 1, x.p20⟩ n = ⟨x.p0, x.p1, x.p2, x.p3, x.p4, x.p5, x.p6, x.p7, false, false, 4, 1, 1, (v.r : Nat), (v.c : Nat), (v.b : Nat), (v.p : Nat), 0, 0, n, x.p20⟩ := rfl
theorem last_p (x : Po) (v : Vc) (n : Int) : stepP ⟨x.p0, x.p1, x.p2, x.p3, x.p4, x.p5, x.p6, x.p7, false, false, 4, 1, 1, (v.r : Nat), (v.c : Nat), (v.b : Nat), (v.p : Nat), 0, 0, 1, x.p20⟩ n = ⟨x.p0, x.p1, x.p2, x.p3, x.p4, x.p5, x.p6, x.p7, false, false, 4, 2, 1, (v.r : Nat), (v.c : Nat), (v.b : Nat), (v.p : Nat), 0, 0, 0, x.p20⟩ := rfl
theorem stay_p (x : Po) (v : Vc) (wt n : Int) : stepP ⟨x.p0, x.p1, x.p2, x.p3, x.p4, x.p5, x.p6, x.p7, false, false, 4, 2, 1, (v.r : Nat), (v.c : Nat), (v.b : Nat), (v.p : Nat), 0, 0, wt, x.p20⟩ n = ⟨x.p0, x.p1, x.p2, x.p3, x.p4, x.p5, x.p6, x.p7, false, false, 4, 2, 1, (v.r : Nat), (v.c : Nat), (v.b : Nat), (v.p : Nat), 0, 0, wt, x.p20⟩ := rfl
theorem first_p (x : Po) (u v : Vc) (n : Int) : assumeP ⟨x.p0, x.p1, x.p2, x.p3, x.p4, x.p5, x.p6, x.p7, false, x.p9, 1, x.p11, x.p12, x.p13, x.p14, x.p15, x.p16, x.p17, x.p18, x.p19, x.p20⟩ u 4 v n = ⟨x.p0, x.p1, x.p2, x.p3, x.p4, x.p5, x.p6, x.p7, false, false, 4, 0, 1, (v.r : Nat), (v.c : Nat), (v.b : Nat), (v.p : Nat), 0, 0, n, x.p20⟩ := by
  unfold assumeP
  rw [if_neg (by decide), if_neg (by decide), if_pos rfl]
  simp [desP, desV, desB, edgeB]
theorem first_n (x : Po) (u v : Vc) : assumeN ⟨x.p0, x.p1, x.p2, x.p3, x.p4, x.p5, x.p6, x.p7, false, x.p9, 1, x.p11, x.p12, x.p13, x.p14, x.p15, x.p16, x.p17, x.p18, x.p19, x.p20⟩ u 4 v = true := by simp [assumeN, desB]
/-- The slots, while the region runs. -/
def WaA (y : Lq) (x : Po) (u v : Vc) (n : Int) (dd : Nat) (b1 b3 b6 : Nat) (L : Nat → Bool) : Act := { tmps := #[.agg (lqA y), .int .u8 (dd : Nat), .pointer (some ⟨b1, 0, none⟩), undef, .bool false, .int .i64 n, .pointer (some ⟨b3, 0, none⟩), .pointer (some ⟨b6, 0, none⟩), undef, undef, undef, undef, .bool true, .bool false, .int .u8 (dd : Nat), .int .i64 (dd : Nat), .int .i64 (Int.tmod (dd : Nat) 30), .int .i64 n, .int .i64 n, .agg (cfA ⟨0, 0, 0, n, 0, 0⟩), .agg (lqA y), .agg (poA ⟨x.p0, x.p1, x.p2, x.p3, x.p4, x.p5, x.p6, x.p7, x.p8, x.p9, x.p10, x.p11, x.p12, (u.r : Nat), (u.c : Nat), (u.b : Nat), (u.p : Nat), x.p17, x.p18, x.p19, x.p20⟩), .pointer (some ⟨b6, 8, none⟩), .pointer (some ⟨b6, 10, none⟩), bif L 5 then .tuple #[.agg (poA ⟨x.p0, x.p1, x.p2, x.p3, x.p4, x.p5, x.p6, x.p7, false, false, 4, 0, 1, (v.r : Nat), (v.c : Nat), (v.b : Nat), (v.p : Nat), 0, 0, n, x.p20⟩), .bool true, .bool false] else undef, bif L 0 then .agg (poA ⟨x.p0, x.p1, x.p2, x.p3, x.p4, x.p5, x.p6, x.p7, false, x.p9, 1, x.p11, x.p12, (u.r : Nat), (u.c : Nat), (u.b : Nat), (u.p : Nat), x.p17, x.p18, x.p19, x.p20⟩) else undef, bif L 1 then .agg (#[.int .u8 4, .int .u8 5, .int .u8 6]) else undef, bif L 2 then .agg (vcA v) else undef, bif L 3 then .agg (cfA ⟨0, 0, 0, n, 0, 0⟩) else undef, bif L 4 then .tuple #[.agg (poA ⟨x.p0, x.p1, x.p2, x.p3, x.p4, x.p5, x.p6, x.p7, false, false, 4, 0, 1, (v.r : Nat), (v.c : Nat), (v.b : Nat), (v.p : Nat), 0, 0, n, x.p20⟩), .bool true, .bool false] else undef, bif L 6 then .agg (poA ⟨x.p0, x.p1, x.p2, x.p3, x.p4, x.p5, x.p6, x.p7, false, false, 4, 0, 1, (v.r : Nat), (v.c : Nat), (v.b : Nat), (v.p : Nat), 0, 0, n, x.p20⟩) else undef, bif L 7 then .bool true else undef, bif L 8 then .bool false else undef, undef, undef, undef, undef, undef, undef, undef, undef, undef, undef, undef, undef, undef, undef, undef, undef, undef, undef, undef, undef, undef, undef, undef, undef, undef, undef, undef, undef, undef, undef, undef, undef, undef, undef, undef, undef, undef, undef, undef, undef, undef, undef, undef, undef, undef, undef, undef, undef, undef, undef], defers := [] }
set_option maxRecDepth 100000 in
set_option maxHeartbeats 8000000 in
theorem waits_law (y : Lq) (hy : y.ok) (dd : Nat) (hdd : dd < 256) (w : World) : Calls Try.prog 5 #[.agg (lqA y), .int .u8 (dd : Nat)] w fun e w' => e = .returned (.bool true) ∧ Below w.heap.size w w' := by
  obtain ⟨n, hn⟩ : ∃ n, n = IntKind.i64.wrap (1 + Int.tmod (dd : Nat) 30) := ⟨_, rfl⟩
  have hb : 1 ≤ n ∧ n ≤ 30 := by
    have e : Int.tmod (dd : Nat) 30 = ((dd % 30 : Nat) : Int) := rfl
    rw [hn, e, wrap_i64 (by omega) (by omega)]
    omega
  obtain ⟨tt, htt⟩ : ∃ t, t = 2 * n := ⟨_, rfl⟩
  have HW := Lib.hid (show IntKind.i64.wrap (2 * n) = tt by rw [htt]; exact wrap_i64 (by omega) (by omega))
  have HT := Lib.hid (show 1 ≤ n ∧ n ≤ 30 ∧ tt = 2 * n from ⟨hb.1, hb.2, htt⟩)
  obtain ⟨x, hx⟩ : ∃ x, x = madeQ y := ⟨_, rfl⟩
  obtain ⟨u, hu⟩ : ∃ u, u = (vecQ y.v0 y.v1 y.v2) := ⟨_, rfl⟩
  have hxu : madeQ y = poU x u := by rw [hx, hu, madeQ_U]
  obtain ⟨v, hv⟩ : ∃ v, v = vecQ 4 5 6 := ⟨_, rfl⟩
  have HN := Lib.hid hn
  have HM := Lib.hid hxu
  have HV := Lib.hid hv
  have HY := Lib.hid hy
  clear hn hb htt hx hu hxu hv hy
  have hk : (dd : Int) < 256 := by omega
  have K := Lib.hid (Kb.nil w)
  go_enter Try.func5, Try.ntmps5
  go_upto_region 0 with fail
  refine wp_region_lit ?_
  refine kb_box K.out 26 (.tmp 0) (lqA y) rfl rfl (by rfl) ?_
  intro b1 w1 hb1 hk
  have K1 := Lib.hid (show Kb w [(b1, lqA y, 26)] w1 from hk)
  clear hk hb1
  (try simp only [Act.put, List.getElem_toArray, List.getElem_cons_succ, List.getElem_cons_zero, List.setIfInBounds_toArray, List.set_cons_zero, List.set_cons_succ])
  refine wpList_val (.bool false) (by rfl) (by go_simp) ?_
  (try simp only [Act.put, List.getElem_toArray, List.getElem_cons_succ, List.getElem_cons_zero, List.setIfInBounds_toArray, List.set_cons_zero, List.set_cons_succ])
  refine wpList_nil ?_
  go_upto_region 1 with fail
  refine wp_region_lit ?_
  refine kb_call K1.out 6 #[] (.bool true) (by rfl) (by go_simp) (speaks_any w1) ?_
  intro w2 hk
  have K2 := Lib.hid (show Kb w [(b1, lqA y, 26)] w2 from hk)
  clear hk
  (try simp only [Act.put, List.getElem_toArray, List.getElem_cons_succ, List.getElem_cons_zero, List.setIfInBounds_toArray, List.set_cons_zero, List.set_cons_succ])
  refine wpList_val (.bool false) (by rfl) (by go_simp) ?_
  (try simp only [Act.put, List.getElem_toArray, List.getElem_cons_succ, List.getElem_cons_zero, List.setIfInBounds_toArray, List.set_cons_zero, List.set_cons_succ])
  refine wpList_nil ?_
  go_upto_region 3 with fail
  refine wp_region_lit ?_
  refine wpList_val (.int .u8 (dd : Nat)) (by rfl) (by go_simp) ?_
  (try simp only [Act.put, List.getElem_toArray, List.getElem_cons_succ, List.getElem_cons_zero, List.setIfInBounds_toArray, List.set_cons_zero, List.set_cons_succ])
  refine wpList_val (.int .i64 (dd : Nat)) (by rfl) (by go_simp; exact wrap_i64 (by omega) (by omega)) ?_
  (try simp only [Act.put, List.getElem_toArray, List.getElem_cons_succ, List.getElem_cons_zero, List.setIfInBounds_toArray, List.set_cons_zero, List.set_cons_succ])
  refine wpList_val (.int .i64 (Int.tmod (dd : Nat) 30)) (by rfl) (by go_simp) ?_
  (try simp only [Act.put, List.getElem_toArray, List.getElem_cons_succ, List.getElem_cons_zero, List.setIfInBounds_toArray, List.set_cons_zero, List.set_cons_succ])
  refine wpList_val (.int .i64 n) (by rfl) (by rw [HN.out]; go_simp) ?_
  (try simp only [Act.put, List.getElem_toArray, List.getElem_cons_succ, List.getElem_cons_zero, List.setIfInBounds_toArray, List.set_cons_zero, List.set_cons_succ])
  refine wpList_val (.int .i64 n) (by rfl) (by go_simp) ?_
  (try simp only [Act.put, List.getElem_toArray, List.getElem_cons_succ, List.getElem_cons_zero, List.setIfInBounds_toArray, List.set_cons_zero, List.set_cons_succ])
  refine wpList_nil ?_
  clear hk hdd
  go_upto_region 4 with fail
  refine wp_region_lit ?_
  refine wpList_val (.int .i64 n) (by rfl) (by go_simp) ?_
  (try simp only [Act.put, List.getElem_toArray, List.getElem_cons_succ, List.getElem_cons_zero, List.setIfInBounds_toArray, List.set_cons_zero, List.set_cons_succ])
  refine wpList_val (.agg (cfA ⟨0, 0, 0, n, 0, 0⟩)) (by rfl) (run_build_of 38 [(3, .tmp 18)] rfl _ (cfA ⟨0, 0, 0, n, 0, 0⟩) rfl (by kernel_rfl)) ?_
  (try simp only [Act.put, List.getElem_toArray, List.getElem_cons_succ, List.getElem_cons_zero, List.setIfInBounds_toArray, List.set_cons_zero, List.set_cons_succ])
  refine kb_alloc K2.out 38 (nil6) rfl zC (by rfl) ?_
  intro b3 w3 hb3 hk
  have K3 := Lib.hid (show Kb w [(b1, lqA y, 26), (b3, nil6, 38)] w3 from hk)
  clear hk hb3
  (try simp only [Act.put, List.getElem_toArray, List.getElem_cons_succ, List.getElem_cons_zero, List.setIfInBounds_toArray, List.set_cons_zero, List.set_cons_succ])
  refine kb_row K3.out 1 rfl 38 _ _ (cfA ⟨0, 0, 0, n, 0, 0⟩) rfl rfl rfl rfl (size34) (by rfl) (by kernel_rfl) ?_
  intro w4 hk
  have K4 := Lib.hid (show Kb w [(b1, lqA y, 26), (b3, cfA ⟨0, 0, 0, n, 0, 0⟩, 38)] w4 from hk)
  clear hk
  (try simp only [Act.put, List.getElem_toArray, List.getElem_cons_succ, List.getElem_cons_zero, List.setIfInBounds_toArray, List.set_cons_zero, List.set_cons_succ])
  refine wpList_nil ?_
  go_upto_region 5 with fail
  refine wp_region_lit ?_
  refine wpList_val (.agg (lqA y)) (by rfl) (kb_all K4.out 0 rfl 26 _ rfl rfl Try.underlying26 rfl (sizeLq)) ?_
  (try simp only [Act.put, List.getElem_toArray, List.getElem_cons_succ, List.getElem_cons_zero, List.setIfInBounds_toArray, List.set_cons_zero, List.set_cons_succ])
  refine kb_call K4.out 8 #[.agg (lqA y)] (.agg (poA ⟨x.p0, x.p1, x.p2, x.p3, x.p4, x.p5, x.p6, x.p7, x.p8, x.p9, x.p10, x.p11, x.p12, (u.r : Nat), (u.c : Nat), (u.b : Nat), (u.p : Nat), x.p17, x.p18, x.p19, x.p20⟩)) (by rfl) (by go_simp) (made_is y HY.out ⟨x.p0, x.p1, x.p2, x.p3, x.p4, x.p5, x.p6, x.p7, x.p8, x.p9, x.p10, x.p11, x.p12, (u.r : Nat), (u.c : Nat), (u.b : Nat), (u.p : Nat), x.p17, x.p18, x.p19, x.p20⟩ HM.out w4) ?_
  intro w5 hk
  have K5 := Lib.hid (show Kb w [(b1, lqA y, 26), (b3, cfA ⟨0, 0, 0, n, 0, 0⟩, 38)] w5 from hk)
  clear hk
  (try simp only [Act.put, List.getElem_toArray, List.getElem_cons_succ, List.getElem_cons_zero, List.setIfInBounds_toArray, List.set_cons_zero, List.set_cons_succ])
  refine kb_alloc K5.out 42 (nil21) rfl z50 (by rfl) ?_
  intro b6 w6 hb6 hk
  have K6 := Lib.hid (show Kb w [(b1, lqA y, 26), (b3, cfA ⟨0, 0, 0, n, 0, 0⟩, 38), (b6, nil21, 42)] w6 from hk)
  clear hk hb6
  (try simp only [Act.put, List.getElem_toArray, List.getElem_cons_succ, List.getElem_cons_zero, List.setIfInBounds_toArray, List.set_cons_zero, List.set_cons_succ])
  refine kb_row K6.out 2 rfl 42 _ _ (poA ⟨x.p0, x.p1, x.p2, x.p3, x.p4, x.p5, x.p6, x.p7, x.p8, x.p9, x.p10, x.p11, x.p12, (u.r : Nat), (u.c : Nat), (u.b : Nat), (u.p : Nat), x.p17, x.p18, x.p19, x.p20⟩) rfl rfl rfl rfl (size50) (by rfl) (po_all _) ?_
  intro w7 hk
  have K7 := Lib.hid (show Kb w [(b1, lqA y, 26), (b3, cfA ⟨0, 0, 0, n, 0, 0⟩, 38), (b6, poA ⟨x.p0, x.p1, x.p2, x.p3, x.p4, x.p5, x.p6, x.p7, x.p8, x.p9, x.p10, x.p11, x.p12, (u.r : Nat), (u.c : Nat), (u.b : Nat), (u.p : Nat), x.p17, x.p18, x.p19, x.p20⟩, 42)] w7 from hk)
  clear hk
  (try simp only [Act.put, List.getElem_toArray, List.getElem_cons_succ, List.getElem_cons_zero, List.setIfInBounds_toArray, List.set_cons_zero, List.set_cons_succ])
  refine wpList_nil ?_
  go_upto_region 6 with fail
  refine wp_region_lit ?_
  refine wpList_val (.pointer (some ⟨b6, 8, none⟩)) (by rfl) (by go_simp) ?_
  (try simp only [Act.put, List.getElem_toArray, List.getElem_cons_succ, List.getElem_cons_zero, List.setIfInBounds_toArray, List.set_cons_zero, List.set_cons_succ])
  refine kb_set K7.out 2 rfl 4 _ _ 8 (.bool false) rfl (by rfl) rfl rfl (kb_run_set K7.out (i := 2) rfl 4 8 (.bool x.p8) (.bool false) (by rfl) (fun W h1 h2 => by go_simp)) (poA ⟨x.p0, x.p1, x.p2, x.p3, x.p4, x.p5, x.p6, x.p7, false, x.p9, x.p10, x.p11, x.p12, (u.r : Nat), (u.c : Nat), (u.b : Nat), (u.p : Nat), x.p17, x.p18, x.p19, x.p20⟩) (by kernel_rfl) ?_
  intro w8 hk
  have K8 := Lib.hid (show Kb w [(b1, lqA y, 26), (b3, cfA ⟨0, 0, 0, n, 0, 0⟩, 38), (b6, poA ⟨x.p0, x.p1, x.p2, x.p3, x.p4, x.p5, x.p6, x.p7, false, x.p9, x.p10, x.p11, x.p12, (u.r : Nat), (u.c : Nat), (u.b : Nat), (u.p : Nat), x.p17, x.p18, x.p19, x.p20⟩, 42)] w8 from hk)
  clear hk
  (try simp only [Act.put, List.getElem_toArray, List.getElem_cons_succ, List.getElem_cons_zero, List.setIfInBounds_toArray, List.set_cons_zero, List.set_cons_succ])
  refine wpList_val (.pointer (some ⟨b6, 10, none⟩)) (by rfl) (by go_simp) ?_
  (try simp only [Act.put, List.getElem_toArray, List.getElem_cons_succ, List.getElem_cons_zero, List.setIfInBounds_toArray, List.set_cons_zero, List.set_cons_succ])
  refine kb_set K8.out 2 rfl 3 _ _ 10 (.int .i64 1) rfl (by rfl) rfl rfl (kb_run_set K8.out (i := 2) rfl 3 10 (.int .i64 x.p10) (.int .i64 1) (by rfl) (fun W h1 h2 => by go_simp)) (poA ⟨x.p0, x.p1, x.p2, x.p3, x.p4, x.p5, x.p6, x.p7, false, x.p9, 1, x.p11, x.p12, (u.r : Nat), (u.c : Nat), (u.b : Nat), (u.p : Nat), x.p17, x.p18, x.p19, x.p20⟩) (by kernel_rfl) ?_
  intro w9 hk
  have K9 := Lib.hid (show Kb w [(b1, lqA y, 26), (b3, cfA ⟨0, 0, 0, n, 0, 0⟩, 38), (b6, poA ⟨x.p0, x.p1, x.p2, x.p3, x.p4, x.p5, x.p6, x.p7, false, x.p9, 1, x.p11, x.p12, (u.r : Nat), (u.c : Nat), (u.b : Nat), (u.p : Nat), x.p17, x.p18, x.p19, x.p20⟩, 42)] w9 from hk)
  clear hk
  (try simp only [Act.put, List.getElem_toArray, List.getElem_cons_succ, List.getElem_cons_zero, List.setIfInBounds_toArray, List.set_cons_zero, List.set_cons_succ])
  refine wpList_nil ?_
  go_upto_region 7 with fail
  refine wp_region_inv_dc (I := fun L ac w' => ac = WaA y x u v n dd b1 b3 b6 L ∧ Kb w [(b1, lqA y, 26), (b3, cfA ⟨0, 0, 0, n, 0, 0⟩, 38), (b6, bif L 9 then poA ⟨x.p0, x.p1, x.p2, x.p3, x.p4, x.p5, x.p6, x.p7, false, false, 4, 0, 1, (v.r : Nat), (v.c : Nat), (v.b : Nat), (v.p : Nat), 0, 0, n, x.p20⟩ else poA ⟨x.p0, x.p1, x.p2, x.p3, x.p4, x.p5, x.p6, x.p7, false, x.p9, 1, x.p11, x.p12, (u.r : Nat), (u.c : Nat), (u.b : Nat), (u.p : Nat), x.p17, x.p18, x.p19, x.p20⟩, 42)] w') (by kernel_rfl) (by kernel_rfl) ⟨by kernel_rfl, K9.out.drew⟩ ?_ ?_
  · intro i hi Lx ac w' hI hL haft hdc
    obtain ⟨rfl, hw⟩ := hI
    match i, hi with
    | 0, _ =>
      have g7 : (WaA y x u v n dd b1 b3 b6 Lx).tmps[7]?.getD undef = .pointer (some ⟨b6, 0, none⟩) := by kernel_rfl
      have e7 : (WaA y x u v n dd b1 b3 b6 Lx).eval (.tmp 7) = .pointer (some ⟨b6, 0, none⟩) := by kernel_rfl
      have hn9 : Lx 9 = false := by
        cases c : Lx 9 with
        | false => rfl
        | true => exact absurd (hdc 9 c 0 (by decide)) (by rw [hL]; decide)
      have hw0 : Kb w [(b1, lqA y, 26), (b3, cfA ⟨0, 0, 0, n, 0, 0⟩, 38), (b6, poA ⟨x.p0, x.p1, x.p2, x.p3, x.p4, x.p5, x.p6, x.p7, false, x.p9, 1, x.p11, x.p12, (u.r : Nat), (u.c : Nat), (u.b : Nat), (u.p : Nat), x.p17, x.p18, x.p19, x.p20⟩, 42)] w' := by rw [hn9] at hw; exact hw
      exact i_val rfl (.agg (poA ⟨x.p0, x.p1, x.p2, x.p3, x.p4, x.p5, x.p6, x.p7, false, x.p9, 1, x.p11, x.p12, (u.r : Nat), (u.c : Nat), (u.b : Nat), (u.p : Nat), x.p17, x.p18, x.p19, x.p20⟩)) w' (by rfl) (kb_all hw0 2 rfl 42 _ rfl e7 Try.underlying42 rfl (size50)) ⟨by kernel_rfl, hw⟩
    | 1, _ =>
      exact i_val rfl (.agg (#[.int .u8 4, .int .u8 5, .int .u8 6])) w' (by rfl) (run_build_of 23 [(0, .const (.int .u8 4)), (1, .const (.int .u8 5)), (2, .const (.int .u8 6))] rfl _ #[.int .u8 4, .int .u8 5, .int .u8 6] rfl (by kernel_rfl)) ⟨by kernel_rfl, hw⟩
    | 2, _ =>
      have h1 := haft 1 (by decide)
      have e26 : (WaA y x u v n dd b1 b3 b6 Lx).eval (.tmp 26) = .agg (#[.int .u8 4, .int .u8 5, .int .u8 6]) := by show (bif Lx 1 then _ else _) = _; rw [h1]; rfl
      have g26 : (WaA y x u v n dd b1 b3 b6 Lx).tmps[26]?.getD undef = .agg (#[.int .u8 4, .int .u8 5, .int .u8 6]) := by show (bif Lx 1 then _ else _) = _; rw [h1]; rfl
      exact i_call rfl (.agg (vcA v)) 7 #[.agg (#[.int .u8 4, .int .u8 5, .int .u8 6])] (fun w2 => Below w'.heap.size w' w2) (by rfl) (by go_simp) (by rw [HV.out]; exact vec_any 4 5 6 (by decide) (by decide) (by decide) w') (fun w2 hb => ⟨by kernel_rfl, hw.next hb⟩)
    | 3, _ =>
      have g6 : (WaA y x u v n dd b1 b3 b6 Lx).tmps[6]?.getD undef = .pointer (some ⟨b3, 0, none⟩) := by kernel_rfl
      have e6 : (WaA y x u v n dd b1 b3 b6 Lx).eval (.tmp 6) = .pointer (some ⟨b3, 0, none⟩) := by kernel_rfl
      exact i_val rfl (.agg (cfA ⟨0, 0, 0, n, 0, 0⟩)) w' (by rfl) (kb_all hw 1 rfl 38 _ rfl e6 Try.underlying38 rfl (size34)) ⟨by kernel_rfl, hw⟩
    | 4, _ =>
      have h0 := haft 0 (by decide)
      have e25 : (WaA y x u v n dd b1 b3 b6 Lx).eval (.tmp 25) = .agg (poA ⟨x.p0, x.p1, x.p2, x.p3, x.p4, x.p5, x.p6, x.p7, false, x.p9, 1, x.p11, x.p12, (u.r : Nat), (u.c : Nat), (u.b : Nat), (u.p : Nat), x.p17, x.p18, x.p19, x.p20⟩) := by show (bif Lx 0 then _ else _) = _; rw [h0]; rfl
      have g25 : (WaA y x u v n dd b1 b3 b6 Lx).tmps[25]?.getD undef = .agg (poA ⟨x.p0, x.p1, x.p2, x.p3, x.p4, x.p5, x.p6, x.p7, false, x.p9, 1, x.p11, x.p12, (u.r : Nat), (u.c : Nat), (u.b : Nat), (u.p : Nat), x.p17, x.p18, x.p19, x.p20⟩) := by show (bif Lx 0 then _ else _) = _; rw [h0]; rfl
      have h2 := haft 2 (by decide)
      have e27 : (WaA y x u v n dd b1 b3 b6 Lx).eval (.tmp 27) = .agg (vcA v) := by show (bif Lx 2 then _ else _) = _; rw [h2]; rfl
      have g27 : (WaA y x u v n dd b1 b3 b6 Lx).tmps[27]?.getD undef = .agg (vcA v) := by show (bif Lx 2 then _ else _) = _; rw [h2]; rfl
      have h3 := haft 3 (by decide)
      have e28 : (WaA y x u v n dd b1 b3 b6 Lx).eval (.tmp 28) = .agg (cfA ⟨0, 0, 0, n, 0, 0⟩) := by show (bif Lx 3 then _ else _) = _; rw [h3]; rfl
      have g28 : (WaA y x u v n dd b1 b3 b6 Lx).tmps[28]?.getD undef = .agg (cfA ⟨0, 0, 0, n, 0, 0⟩) := by show (bif Lx 3 then _ else _) = _; rw [h3]; rfl
      exact i_call rfl (.tuple #[.agg (poA ⟨x.p0, x.p1, x.p2, x.p3, x.p4, x.p5, x.p6, x.p7, false, false, 4, 0, 1, (v.r : Nat), (v.c : Nat), (v.b : Nat), (v.p : Nat), 0, 0, n, x.p20⟩), .bool true, .bool false]) 9 #[.agg (poA ⟨x.p0, x.p1, x.p2, x.p3, x.p4, x.p5, x.p6, x.p7, false, x.p9, 1, x.p11, x.p12, (u.r : Nat), (u.c : Nat), (u.b : Nat), (u.p : Nat), x.p17, x.p18, x.p19, x.p20⟩), .int .i64 4, .agg (vcA v), .agg (cfA ⟨0, 0, 0, n, 0, 0⟩)] (fun w2 => Below w'.heap.size w' w2) (by rfl) (by go_simp) (assume_is ⟨x.p0, x.p1, x.p2, x.p3, x.p4, x.p5, x.p6, x.p7, false, x.p9, 1, x.p11, x.p12, (u.r : Nat), (u.c : Nat), (u.b : Nat), (u.p : Nat), x.p17, x.p18, x.p19, x.p20⟩ ⟨x.p0, x.p1, x.p2, x.p3, x.p4, x.p5, x.p6, x.p7, false, x.p9, 1, x.p11, x.p12, x.p13, x.p14, x.p15, x.p16, x.p17, x.p18, x.p19, x.p20⟩ ⟨x.p0, x.p1, x.p2, x.p3, x.p4, x.p5, x.p6, x.p7, false, false, 4, 0, 1, (v.r : Nat), (v.c : Nat), (v.b : Nat), (v.p : Nat), 0, 0, n, x.p20⟩ u 4 v ⟨0, 0, 0, n, 0, 0⟩ true false rfl (first_p x u v n) (first_n x u v) (by simp [openedB]) w') (fun w2 hb => ⟨by kernel_rfl, hw.next hb⟩)
    | 5, _ =>
      have h4 := haft 4 (by decide)
      have e29 : (WaA y x u v n dd b1 b3 b6 Lx).eval (.tmp 29) = .tuple #[.agg (poA ⟨x.p0, x.p1, x.p2, x.p3, x.p4, x.p5, x.p6, x.p7, false, false, 4, 0, 1, (v.r : Nat), (v.c : Nat), (v.b : Nat), (v.p : Nat), 0, 0, n, x.p20⟩), .bool true, .bool false] := by show (bif Lx 4 then _ else _) = _; rw [h4]; rfl
      have g29 : (WaA y x u v n dd b1 b3 b6 Lx).tmps[29]?.getD undef = .tuple #[.agg (poA ⟨x.p0, x.p1, x.p2, x.p3, x.p4, x.p5, x.p6, x.p7, false, false, 4, 0, 1, (v.r : Nat), (v.c : Nat), (v.b : Nat), (v.p : Nat), 0, 0, n, x.p20⟩), .bool true, .bool false] := by show (bif Lx 4 then _ else _) = _; rw [h4]; rfl
      exact i_val rfl (.tuple #[.agg (poA ⟨x.p0, x.p1, x.p2, x.p3, x.p4, x.p5, x.p6, x.p7, false, false, 4, 0, 1, (v.r : Nat), (v.c : Nat), (v.b : Nat), (v.p : Nat), 0, 0, n, x.p20⟩), .bool true, .bool false]) w' (by rfl) (by go_simp) ⟨by kernel_rfl, hw⟩
    | 6, _ =>
      have h5 := haft 5 (by decide)
      have e24 : (WaA y x u v n dd b1 b3 b6 Lx).eval (.tmp 24) = .tuple #[.agg (poA ⟨x.p0, x.p1, x.p2, x.p3, x.p4, x.p5, x.p6, x.p7, false, false, 4, 0, 1, (v.r : Nat), (v.c : Nat), (v.b : Nat), (v.p : Nat), 0, 0, n, x.p20⟩), .bool true, .bool false] := by show (bif Lx 5 then _ else _) = _; rw [h5]; rfl
      have g24 : (WaA y x u v n dd b1 b3 b6 Lx).tmps[24]?.getD undef = .tuple #[.agg (poA ⟨x.p0, x.p1, x.p2, x.p3, x.p4, x.p5, x.p6, x.p7, false, false, 4, 0, 1, (v.r : Nat), (v.c : Nat), (v.b : Nat), (v.p : Nat), 0, 0, n, x.p20⟩), .bool true, .bool false] := by show (bif Lx 5 then _ else _) = _; rw [h5]; rfl
      exact i_val rfl (.agg (poA ⟨x.p0, x.p1, x.p2, x.p3, x.p4, x.p5, x.p6, x.p7, false, false, 4, 0, 1, (v.r : Nat), (v.c : Nat), (v.b : Nat), (v.p : Nat), 0, 0, n, x.p20⟩)) w' (by rfl) (by go_simp) ⟨by kernel_rfl, hw⟩
    | 7, _ =>
      have h5 := haft 5 (by decide)
      have e24 : (WaA y x u v n dd b1 b3 b6 Lx).eval (.tmp 24) = .tuple #[.agg (poA ⟨x.p0, x.p1, x.p2, x.p3, x.p4, x.p5, x.p6, x.p7, false, false, 4, 0, 1, (v.r : Nat), (v.c : Nat), (v.b : Nat), (v.p : Nat), 0, 0, n, x.p20⟩), .bool true, .bool false] := by show (bif Lx 5 then _ else _) = _; rw [h5]; rfl
      have g24 : (WaA y x u v n dd b1 b3 b6 Lx).tmps[24]?.getD undef = .tuple #[.agg (poA ⟨x.p0, x.p1, x.p2, x.p3, x.p4, x.p5, x.p6, x.p7, false, false, 4, 0, 1, (v.r : Nat), (v.c : Nat), (v.b : Nat), (v.p : Nat), 0, 0, n, x.p20⟩), .bool true, .bool false] := by show (bif Lx 5 then _ else _) = _; rw [h5]; rfl
      exact i_val rfl (.bool true) w' (by rfl) (by go_simp) ⟨by kernel_rfl, hw⟩
    | 8, _ =>
      have h5 := haft 5 (by decide)
      have e24 : (WaA y x u v n dd b1 b3 b6 Lx).eval (.tmp 24) = .tuple #[.agg (poA ⟨x.p0, x.p1, x.p2, x.p3, x.p4, x.p5, x.p6, x.p7, false, false, 4, 0, 1, (v.r : Nat), (v.c : Nat), (v.b : Nat), (v.p : Nat), 0, 0, n, x.p20⟩), .bool true, .bool false] := by show (bif Lx 5 then _ else _) = _; rw [h5]; rfl
      have g24 : (WaA y x u v n dd b1 b3 b6 Lx).tmps[24]?.getD undef = .tuple #[.agg (poA ⟨x.p0, x.p1, x.p2, x.p3, x.p4, x.p5, x.p6, x.p7, false, false, 4, 0, 1, (v.r : Nat), (v.c : Nat), (v.b : Nat), (v.p : Nat), 0, 0, n, x.p20⟩), .bool true, .bool false] := by show (bif Lx 5 then _ else _) = _; rw [h5]; rfl
      exact i_val rfl (.bool false) w' (by rfl) (by go_simp) ⟨by kernel_rfl, hw⟩
    | 9, _ =>
      have g7 : (WaA y x u v n dd b1 b3 b6 Lx).tmps[7]?.getD undef = .pointer (some ⟨b6, 0, none⟩) := by kernel_rfl
      have e7 : (WaA y x u v n dd b1 b3 b6 Lx).eval (.tmp 7) = .pointer (some ⟨b6, 0, none⟩) := by kernel_rfl
      have h6 := haft 6 (by decide)
      have e30 : (WaA y x u v n dd b1 b3 b6 Lx).eval (.tmp 30) = .agg (poA ⟨x.p0, x.p1, x.p2, x.p3, x.p4, x.p5, x.p6, x.p7, false, false, 4, 0, 1, (v.r : Nat), (v.c : Nat), (v.b : Nat), (v.p : Nat), 0, 0, n, x.p20⟩) := by show (bif Lx 6 then _ else _) = _; rw [h6]; rfl
      have g30 : (WaA y x u v n dd b1 b3 b6 Lx).tmps[30]?.getD undef = .agg (poA ⟨x.p0, x.p1, x.p2, x.p3, x.p4, x.p5, x.p6, x.p7, false, false, 4, 0, 1, (v.r : Nat), (v.c : Nat), (v.b : Nat), (v.p : Nat), 0, 0, n, x.p20⟩) := by show (bif Lx 6 then _ else _) = _; rw [h6]; rfl
      exact i_wp rfl (by rfl) (wp_store_row 42 _ _ rfl b6 (poA ⟨x.p0, x.p1, x.p2, x.p3, x.p4, x.p5, x.p6, x.p7, false, false, 4, 0, 1, (v.r : Nat), (v.c : Nat), (v.b : Nat), (v.p : Nat), 0, 0, n, x.p20⟩) e7 e30 42 (bif Lx 9 then poA ⟨x.p0, x.p1, x.p2, x.p3, x.p4, x.p5, x.p6, x.p7, false, false, 4, 0, 1, (v.r : Nat), (v.c : Nat), (v.b : Nat), (v.p : Nat), 0, 0, n, x.p20⟩ else poA ⟨x.p0, x.p1, x.p2, x.p3, x.p4, x.p5, x.p6, x.p7, false, x.p9, 1, x.p11, x.p12, (u.r : Nat), (u.c : Nat), (u.b : Nat), (u.p : Nat), x.p17, x.p18, x.p19, x.p20⟩) (Kb.at (i := 2) hw rfl) (size50) (by rw [hL]; rfl) (po_all _) ⟨by kernel_rfl, cast_blk (Kb.row (i := 2) hw rfl (poA ⟨x.p0, x.p1, x.p2, x.p3, x.p4, x.p5, x.p6, x.p7, false, false, 4, 0, 1, (v.r : Nat), (v.c : Nat), (v.b : Nat), (v.p : Nat), 0, 0, n, x.p20⟩)) (by rfl)⟩)
    | k + 10, h =>
      exfalso
      have h2 : k + 10 < 10 := h
      omega
  intro Lx ac w10 hI hall
  obtain ⟨rfl, hw⟩ := hI
  have hfr : WaA y x u v n dd b1 b3 b6 Lx = { tmps := #[.agg (lqA y), .int .u8 (dd : Nat), .pointer (some ⟨b1, 0, none⟩), undef, .bool false, .int .i64 n, .pointer (some ⟨b3, 0, none⟩), .pointer (some ⟨b6, 0, none⟩), undef, undef, undef, undef, .bool true, .bool false, .int .u8 (dd : Nat), .int .i64 (dd : Nat), .int .i64 (Int.tmod (dd : Nat) 30), .int .i64 n, .int .i64 n, .agg (cfA ⟨0, 0, 0, n, 0, 0⟩), .agg (lqA y), .agg (poA ⟨x.p0, x.p1, x.p2, x.p3, x.p4, x.p5, x.p6, x.p7, x.p8, x.p9, x.p10, x.p11, x.p12, (u.r : Nat), (u.c : Nat), (u.b : Nat), (u.p : Nat), x.p17, x.p18, x.p19, x.p20⟩), .pointer (some ⟨b6, 8, none⟩), .pointer (some ⟨b6, 10, none⟩), .tuple #[.agg (poA ⟨x.p0, x.p1, x.p2, x.p3, x.p4, x.p5, x.p6, x.p7, false, false, 4, 0, 1, (v.r : Nat), (v.c : Nat), (v.b : Nat), (v.p : Nat), 0, 0, n, x.p20⟩), .bool true, .bool false], .agg (poA ⟨x.p0, x.p1, x.p2, x.p3, x.p4, x.p5, x.p6, x.p7, false, x.p9, 1, x.p11, x.p12, (u.r : Nat), (u.c : Nat), (u.b : Nat), (u.p : Nat), x.p17, x.p18, x.p19, x.p20⟩), .agg (#[.int .u8 4, .int .u8 5, .int .u8 6]), .agg (vcA v), .agg (cfA ⟨0, 0, 0, n, 0, 0⟩), .tuple #[.agg (poA ⟨x.p0, x.p1, x.p2, x.p3, x.p4, x.p5, x.p6, x.p7, false, false, 4, 0, 1, (v.r : Nat), (v.c : Nat), (v.b : Nat), (v.p : Nat), 0, 0, n, x.p20⟩), .bool true, .bool false], .agg (poA ⟨x.p0, x.p1, x.p2, x.p3, x.p4, x.p5, x.p6, x.p7, false, false, 4, 0, 1, (v.r : Nat), (v.c : Nat), (v.b : Nat), (v.p : Nat), 0, 0, n, x.p20⟩), .bool true, .bool false, undef, undef, undef, undef, undef, undef, undef, undef, undef, undef, undef, undef, undef, undef, undef, undef, undef, undef, undef, undef, undef, undef, undef, undef, undef, undef, undef, undef, undef, undef, undef, undef, undef, undef, undef, undef, undef, undef, undef, undef, undef, undef, undef, undef, undef, undef, undef, undef, undef, undef], defers := [] } := by unfold WaA; simp only [hall 0 (by decide), hall 1 (by decide), hall 2 (by decide), hall 3 (by decide), hall 4 (by decide), hall 5 (by decide), hall 6 (by decide), hall 7 (by decide), hall 8 (by decide), cond_true]
  rw [hfr]
  clear hfr
  have hL9 := hall 9 (by decide)
  simp only [hL9, cond_true] at hw
  have K10 := Lib.hid (show Kb w [(b1, lqA y, 26), (b3, cfA ⟨0, 0, 0, n, 0, 0⟩, 38), (b6, poA ⟨x.p0, x.p1, x.p2, x.p3, x.p4, x.p5, x.p6, x.p7, false, false, 4, 0, 1, (v.r : Nat), (v.c : Nat), (v.b : Nat), (v.p : Nat), 0, 0, n, x.p20⟩, 42)] w10 from hw)
  clear hw hall hL9
  go_upto_region 8 with fail
  refine wp_region_lit ?_
  refine wpList_val (.int .i64 1) (by rfl) (by go_simp) ?_
  (try simp only [Act.put, List.getElem_toArray, List.getElem_cons_succ, List.getElem_cons_zero, List.setIfInBounds_toArray, List.set_cons_zero, List.set_cons_succ])
  refine wpList_nil ?_
  go_upto_region 9 with fail
  go_loopw [8] (fun i wr => ∃ (k : Nat) (st wt : Int), 1 ≤ k ∧ Phase k n st wt ∧ i = .int .i64 k ∧ Kb w [(b1, lqA y, 26), (b3, cfA ⟨0, 0, 0, n, 0, 0⟩, 38), (b6, poA ⟨x.p0, x.p1, x.p2, x.p3, x.p4, x.p5, x.p6, x.p7, false, false, 4, st, 1, (v.r : Nat), (v.c : Nat), (v.b : Nat), (v.p : Nat), 0, 0, wt, x.p20⟩, 42)] wr) (fun i _ => (2 * n + 2 - intOf i).toNat)
  case atStart => exact ⟨1, 0, n, by omega, by have := HT.out; unfold Phase; omega, rfl, K10.out⟩
  case round =>
    obtain ⟨k, st, wt, hk1, hph, rfl, hK⟩ := hrel
    have KR := Lib.hid hK
    have HPH := Lib.hid hph
    have HK1 := Lib.hid hk1
    clear hK hph hk1
    rcases HPH.out with ⟨c1, c2, c3⟩ | ⟨c0, c1, c2, c3⟩ | ⟨c1, c2, c3⟩
    case inl =>
      subst c2
      by_cases c4 : (k : Int) < n
      case pos =>
        have HLE := Lib.hid (show (k : Int) ≤ tt by have := HT.out; omega)
        have HEQ := Lib.hid (show ¬ (k : Int) = tt by have := HT.out; omega)
        have HLT := Lib.hid (show (k : Int) < n by have := HT.out; omega)
        obtain ⟨wu, hwu⟩ : ∃ z, z = wt - 1 := ⟨_, rfl⟩
        have HWT := Lib.hid (show 1 < wt ∧ wt ≤ 100 ∧ wu = wt - 1 ∧ wt = n + 1 - k ∧ (k : Int) < n from ⟨by omega, by have := HT.out; omega, hwu, c3, c4⟩)
        clear c1 c3 c4 hwu HPH
        go_upto_region 9 with fail
        refine wp_region_lit ?_
        refine wpList_val (.int .i64 (k : Nat)) (by rfl) (by go_simp) ?_
        (try simp only [Act.put, List.getElem_toArray, List.getElem_cons_succ, List.getElem_cons_zero, List.setIfInBounds_toArray, List.set_cons_zero, List.set_cons_succ])
        refine wpList_val (.int .i64 n) (by rfl) (by go_simp) ?_
        (try simp only [Act.put, List.getElem_toArray, List.getElem_cons_succ, List.getElem_cons_zero, List.setIfInBounds_toArray, List.set_cons_zero, List.set_cons_succ])
        refine wpList_val (.int .i64 tt) (by rfl) (by rw [← HW.out]; go_simp) ?_
        (try simp only [Act.put, List.getElem_toArray, List.getElem_cons_succ, List.getElem_cons_zero, List.setIfInBounds_toArray, List.set_cons_zero, List.set_cons_succ])
        refine wpList_val (.bool true) (by rfl) (by have q := HLE.out; go_simp) ?_
        (try simp only [Act.put, List.getElem_toArray, List.getElem_cons_succ, List.getElem_cons_zero, List.setIfInBounds_toArray, List.set_cons_zero, List.set_cons_succ])
        refine wpList_nil ?_
        go_upto_region 11 with fail
        refine wp_region_lit ?_
        refine wpList_val (.bool false) (by rfl) (by go_simp) ?_
        (try simp only [Act.put, List.getElem_toArray, List.getElem_cons_succ, List.getElem_cons_zero, List.setIfInBounds_toArray, List.set_cons_zero, List.set_cons_succ])
        refine wpList_nil ?_
        go_upto_region 12 with fail
        refine wp_region_lit ?_
        refine wpList_val (.agg (poA ⟨x.p0, x.p1, x.p2, x.p3, x.p4, x.p5, x.p6, x.p7, false, false, 4, 0, 1, (v.r : Nat), (v.c : Nat), (v.b : Nat), (v.p : Nat), 0, 0, wt, x.p20⟩)) (by rfl) (kb_all KR.out 2 rfl 42 _ rfl rfl Try.underlying42 rfl (size50)) ?_
        (try simp only [Act.put, List.getElem_toArray, List.getElem_cons_succ, List.getElem_cons_zero, List.setIfInBounds_toArray, List.set_cons_zero, List.set_cons_succ])
        refine wpList_val (.agg (cfA ⟨0, 0, 0, n, 0, 0⟩)) (by rfl) (kb_all KR.out 1 rfl 38 _ rfl rfl Try.underlying38 rfl (size34)) ?_
        (try simp only [Act.put, List.getElem_toArray, List.getElem_cons_succ, List.getElem_cons_zero, List.setIfInBounds_toArray, List.set_cons_zero, List.set_cons_succ])
        refine kb_call KR.out 10 #[.agg (poA ⟨x.p0, x.p1, x.p2, x.p3, x.p4, x.p5, x.p6, x.p7, false, false, 4, 0, 1, (v.r : Nat), (v.c : Nat), (v.b : Nat), (v.p : Nat), 0, 0, wt, x.p20⟩), .agg (cfA ⟨0, 0, 0, n, 0, 0⟩)] (.tuple #[.agg (poA ⟨x.p0, x.p1, x.p2, x.p3, x.p4, x.p5, x.p6, x.p7, false, false, 4, 0, 1, (v.r : Nat), (v.c : Nat), (v.b : Nat), (v.p : Nat), 0, 0, wu, x.p20⟩), .bool false]) (by rfl) (by go_simp) (step_is ⟨x.p0, x.p1, x.p2, x.p3, x.p4, x.p5, x.p6, x.p7, false, false, 4, 0, 1, (v.r : Nat), (v.c : Nat), (v.b : Nat), (v.p : Nat), 0, 0, wt, x.p20⟩ ⟨x.p0, x.p1, x.p2, x.p3, x.p4, x.p5, x.p6, x.p7, false, false, 4, 0, 1, (v.r : Nat), (v.c : Nat), (v.b : Nat), (v.p : Nat), 0, 0, wu, x.p20⟩ ⟨0, 0, 0, n, 0, 0⟩ false (wait_p x v 0 wt wu n (by decide) HWT.out.1 HWT.out.2.1 HWT.out.2.2.1) (by show (decide (0 = (2 : Int)) && !decide (0 = (2 : Int))) = _; simp) wr) ?_
        intro w12 hk
        have K12 := Lib.hid (show Kb w [(b1, lqA y, 26), (b3, cfA ⟨0, 0, 0, n, 0, 0⟩, 38), (b6, poA ⟨x.p0, x.p1, x.p2, x.p3, x.p4, x.p5, x.p6, x.p7, false, false, 4, 0, 1, (v.r : Nat), (v.c : Nat), (v.b : Nat), (v.p : Nat), 0, 0, wt, x.p20⟩, 42)] w12 from hk)
        clear hk
        (try simp only [Act.put, List.getElem_toArray, List.getElem_cons_succ, List.getElem_cons_zero, List.setIfInBounds_toArray, List.set_cons_zero, List.set_cons_succ])
        refine wpList_val (.tuple #[.agg (poA ⟨x.p0, x.p1, x.p2, x.p3, x.p4, x.p5, x.p6, x.p7, false, false, 4, 0, 1, (v.r : Nat), (v.c : Nat), (v.b : Nat), (v.p : Nat), 0, 0, wu, x.p20⟩), .bool false]) (by rfl) (by go_simp) ?_
        (try simp only [Act.put, List.getElem_toArray, List.getElem_cons_succ, List.getElem_cons_zero, List.setIfInBounds_toArray, List.set_cons_zero, List.set_cons_succ])
        refine wpList_val (.agg (poA ⟨x.p0, x.p1, x.p2, x.p3, x.p4, x.p5, x.p6, x.p7, false, false, 4, 0, 1, (v.r : Nat), (v.c : Nat), (v.b : Nat), (v.p : Nat), 0, 0, wu, x.p20⟩)) (by rfl) (by go_simp) ?_
        (try simp only [Act.put, List.getElem_toArray, List.getElem_cons_succ, List.getElem_cons_zero, List.setIfInBounds_toArray, List.set_cons_zero, List.set_cons_succ])
        refine wpList_val (.bool false) (by rfl) (by go_simp) ?_
        (try simp only [Act.put, List.getElem_toArray, List.getElem_cons_succ, List.getElem_cons_zero, List.setIfInBounds_toArray, List.set_cons_zero, List.set_cons_succ])
        refine kb_row K12.out 2 rfl 42 _ _ (poA ⟨x.p0, x.p1, x.p2, x.p3, x.p4, x.p5, x.p6, x.p7, false, false, 4, 0, 1, (v.r : Nat), (v.c : Nat), (v.b : Nat), (v.p : Nat), 0, 0, wu, x.p20⟩) rfl rfl rfl rfl (size50) (by rfl) (po_all _) ?_
        intro w13 hk
        have K13 := Lib.hid (show Kb w [(b1, lqA y, 26), (b3, cfA ⟨0, 0, 0, n, 0, 0⟩, 38), (b6, poA ⟨x.p0, x.p1, x.p2, x.p3, x.p4, x.p5, x.p6, x.p7, false, false, 4, 0, 1, (v.r : Nat), (v.c : Nat), (v.b : Nat), (v.p : Nat), 0, 0, wu, x.p20⟩, 42)] w13 from hk)
        clear hk
        (try simp only [Act.put, List.getElem_toArray, List.getElem_cons_succ, List.getElem_cons_zero, List.setIfInBounds_toArray, List.set_cons_zero, List.set_cons_succ])
        refine wpList_val (.bool false) (by rfl) (by go_simp) ?_
        (try simp only [Act.put, List.getElem_toArray, List.getElem_cons_succ, List.getElem_cons_zero, List.setIfInBounds_toArray, List.set_cons_zero, List.set_cons_succ])
        refine wpList_nil ?_
        go_upto_region 13 with fail
        refine wp_region_lit ?_
        refine wpList_val (.bool false) (by rfl) (by go_simp) ?_
        (try simp only [Act.put, List.getElem_toArray, List.getElem_cons_succ, List.getElem_cons_zero, List.setIfInBounds_toArray, List.set_cons_zero, List.set_cons_succ])
        refine wpList_val (.int .i64 (k : Nat)) (by rfl) (by go_simp) ?_
        (try simp only [Act.put, List.getElem_toArray, List.getElem_cons_succ, List.getElem_cons_zero, List.setIfInBounds_toArray, List.set_cons_zero, List.set_cons_succ])
        refine wpList_val (.int .i64 n) (by rfl) (by go_simp) ?_
        (try simp only [Act.put, List.getElem_toArray, List.getElem_cons_succ, List.getElem_cons_zero, List.setIfInBounds_toArray, List.set_cons_zero, List.set_cons_succ])
        refine wpList_val (.int .i64 tt) (by rfl) (by rw [← HW.out]; go_simp) ?_
        (try simp only [Act.put, List.getElem_toArray, List.getElem_cons_succ, List.getElem_cons_zero, List.setIfInBounds_toArray, List.set_cons_zero, List.set_cons_succ])
        refine wpList_val (.bool false) (by rfl) (by have q := HEQ.out; go_simp) ?_
        (try simp only [Act.put, List.getElem_toArray, List.getElem_cons_succ, List.getElem_cons_zero, List.setIfInBounds_toArray, List.set_cons_zero, List.set_cons_succ])
        refine wpList_val (.bool false) (by rfl) (by go_simp) ?_
        (try simp only [Act.put, List.getElem_toArray, List.getElem_cons_succ, List.getElem_cons_zero, List.setIfInBounds_toArray, List.set_cons_zero, List.set_cons_succ])
        refine wpList_val (.bool false) (by rfl) (by go_simp) ?_
        (try simp only [Act.put, List.getElem_toArray, List.getElem_cons_succ, List.getElem_cons_zero, List.setIfInBounds_toArray, List.set_cons_zero, List.set_cons_succ])
        refine wpList_val (.pointer (some ⟨b6, 11, none⟩)) (by rfl) (by go_simp) ?_
        (try simp only [Act.put, List.getElem_toArray, List.getElem_cons_succ, List.getElem_cons_zero, List.setIfInBounds_toArray, List.set_cons_zero, List.set_cons_succ])
        refine wpList_val (.int .i64 0) (by rfl) (by have q : w13.cell? ⟨b6, 11, none⟩ = some (.int .i64 0) := K13.out.cell (i := 2) rfl (by rfl); go_simp) ?_
        (try simp only [Act.put, List.getElem_toArray, List.getElem_cons_succ, List.getElem_cons_zero, List.setIfInBounds_toArray, List.set_cons_zero, List.set_cons_succ])
        refine wpList_val (.bool false) (by rfl) (by go_simp) ?_
        (try simp only [Act.put, List.getElem_toArray, List.getElem_cons_succ, List.getElem_cons_zero, List.setIfInBounds_toArray, List.set_cons_zero, List.set_cons_succ])
        refine wpList_val (.int .i64 (k : Nat)) (by rfl) (by go_simp) ?_
        (try simp only [Act.put, List.getElem_toArray, List.getElem_cons_succ, List.getElem_cons_zero, List.setIfInBounds_toArray, List.set_cons_zero, List.set_cons_succ])
        refine wpList_val (.int .i64 n) (by rfl) (by go_simp) ?_
        (try simp only [Act.put, List.getElem_toArray, List.getElem_cons_succ, List.getElem_cons_zero, List.setIfInBounds_toArray, List.set_cons_zero, List.set_cons_succ])
        refine wpList_val (.int .i64 tt) (by rfl) (by rw [← HW.out]; go_simp) ?_
        (try simp only [Act.put, List.getElem_toArray, List.getElem_cons_succ, List.getElem_cons_zero, List.setIfInBounds_toArray, List.set_cons_zero, List.set_cons_succ])
        refine wpList_val (.bool false) (by rfl) (by have q := HEQ.out; go_simp) ?_
        (try simp only [Act.put, List.getElem_toArray, List.getElem_cons_succ, List.getElem_cons_zero, List.setIfInBounds_toArray, List.set_cons_zero, List.set_cons_succ])
        refine wpList_val (.bool false) (by rfl) (by go_simp) ?_
        (try simp only [Act.put, List.getElem_toArray, List.getElem_cons_succ, List.getElem_cons_zero, List.setIfInBounds_toArray, List.set_cons_zero, List.set_cons_succ])
        refine wpList_val (.bool false) (by rfl) (run_pick_no (.tmp 51) (.const (.bool true)) (.tmp 59) _ rfl rfl rfl) ?_
        (try simp only [Act.put, List.getElem_toArray, List.getElem_cons_succ, List.getElem_cons_zero, List.setIfInBounds_toArray, List.set_cons_zero, List.set_cons_succ])
        refine wpList_val (.bool false) (by rfl) (by go_simp) ?_
        (try simp only [Act.put, List.getElem_toArray, List.getElem_cons_succ, List.getElem_cons_zero, List.setIfInBounds_toArray, List.set_cons_zero, List.set_cons_succ])
        refine wpList_val (.pointer (some ⟨b6, 11, none⟩)) (by rfl) (by go_simp) ?_
        (try simp only [Act.put, List.getElem_toArray, List.getElem_cons_succ, List.getElem_cons_zero, List.setIfInBounds_toArray, List.set_cons_zero, List.set_cons_succ])
        refine wpList_val (.int .i64 0) (by rfl) (by have q : w13.cell? ⟨b6, 11, none⟩ = some (.int .i64 0) := K13.out.cell (i := 2) rfl (by rfl); go_simp) ?_
        (try simp only [Act.put, List.getElem_toArray, List.getElem_cons_succ, List.getElem_cons_zero, List.setIfInBounds_toArray, List.set_cons_zero, List.set_cons_succ])
        refine wpList_val (.bool true) (by rfl) (by go_simp) ?_
        (try simp only [Act.put, List.getElem_toArray, List.getElem_cons_succ, List.getElem_cons_zero, List.setIfInBounds_toArray, List.set_cons_zero, List.set_cons_succ])
        refine wpList_val (.int .i64 (k : Nat)) (by rfl) (by go_simp) ?_
        (try simp only [Act.put, List.getElem_toArray, List.getElem_cons_succ, List.getElem_cons_zero, List.setIfInBounds_toArray, List.set_cons_zero, List.set_cons_succ])
        refine wpList_val (.int .i64 n) (by rfl) (by go_simp) ?_
        (try simp only [Act.put, List.getElem_toArray, List.getElem_cons_succ, List.getElem_cons_zero, List.setIfInBounds_toArray, List.set_cons_zero, List.set_cons_succ])
        refine wpList_val (.bool true) (by rfl) (by have q := HLT.out; go_simp) ?_
        (try simp only [Act.put, List.getElem_toArray, List.getElem_cons_succ, List.getElem_cons_zero, List.setIfInBounds_toArray, List.set_cons_zero, List.set_cons_succ])
        refine wpList_val (.bool false) (by rfl) (by go_simp) ?_
        (try simp only [Act.put, List.getElem_toArray, List.getElem_cons_succ, List.getElem_cons_zero, List.setIfInBounds_toArray, List.set_cons_zero, List.set_cons_succ])
        refine wpList_val (.bool false) (by rfl) (run_pick_no (.tmp 61) (.const (.bool true)) (.tmp 68) _ rfl rfl rfl) ?_
        (try simp only [Act.put, List.getElem_toArray, List.getElem_cons_succ, List.getElem_cons_zero, List.setIfInBounds_toArray, List.set_cons_zero, List.set_cons_succ])
        refine wpList_nil ?_
        have hkb : (k : Int) < 61 := by have := HLE.out; have := HT.out; omega
        go_wp2_with fail
        go_roundw
        case rel => exact ⟨k + 1, 0, wu, by omega, by have q0 := HT.out; have q1 := HWT.out; have q2 := HLE.out; unfold Phase; omega, by go_num, K13.out⟩
        case measure => have := HLE.out; have := HT.out; simp [intOf]; omega
      case neg =>
        obtain rfl : wt = 1 := by omega
        have HLE := Lib.hid (show (k : Int) ≤ tt by have := HT.out; omega)
        have HEQ := Lib.hid (show ¬ (k : Int) = tt by have := HT.out; omega)
        have HLT := Lib.hid (show ¬ (k : Int) < n by have := HT.out; omega)
        have HWT := Lib.hid (show (k : Int) = n by omega)
        clear c1 c3 c4 HPH
        go_upto_region 9 with fail
        refine wp_region_lit ?_
        refine wpList_val (.int .i64 (k : Nat)) (by rfl) (by go_simp) ?_
        (try simp only [Act.put, List.getElem_toArray, List.getElem_cons_succ, List.getElem_cons_zero, List.setIfInBounds_toArray, List.set_cons_zero, List.set_cons_succ])
        refine wpList_val (.int .i64 n) (by rfl) (by go_simp) ?_
        (try simp only [Act.put, List.getElem_toArray, List.getElem_cons_succ, List.getElem_cons_zero, List.setIfInBounds_toArray, List.set_cons_zero, List.set_cons_succ])
        refine wpList_val (.int .i64 tt) (by rfl) (by rw [← HW.out]; go_simp) ?_
        (try simp only [Act.put, List.getElem_toArray, List.getElem_cons_succ, List.getElem_cons_zero, List.setIfInBounds_toArray, List.set_cons_zero, List.set_cons_succ])
        refine wpList_val (.bool true) (by rfl) (by have q := HLE.out; go_simp) ?_
        (try simp only [Act.put, List.getElem_toArray, List.getElem_cons_succ, List.getElem_cons_zero, List.setIfInBounds_toArray, List.set_cons_zero, List.set_cons_succ])
        refine wpList_nil ?_
        go_upto_region 11 with fail
        refine wp_region_lit ?_
        refine wpList_val (.bool false) (by rfl) (by go_simp) ?_
        (try simp only [Act.put, List.getElem_toArray, List.getElem_cons_succ, List.getElem_cons_zero, List.setIfInBounds_toArray, List.set_cons_zero, List.set_cons_succ])
        refine wpList_nil ?_
        go_upto_region 12 with fail
        refine wp_region_lit ?_
        refine wpList_val (.agg (poA ⟨x.p0, x.p1, x.p2, x.p3, x.p4, x.p5, x.p6, x.p7, false, false, 4, 0, 1, (v.r : Nat), (v.c : Nat), (v.b : Nat), (v.p : Nat), 0, 0, 1, x.p20⟩)) (by rfl) (kb_all KR.out 2 rfl 42 _ rfl rfl Try.underlying42 rfl (size50)) ?_
        (try simp only [Act.put, List.getElem_toArray, List.getElem_cons_succ, List.getElem_cons_zero, List.setIfInBounds_toArray, List.set_cons_zero, List.set_cons_succ])
        refine wpList_val (.agg (cfA ⟨0, 0, 0, n, 0, 0⟩)) (by rfl) (kb_all KR.out 1 rfl 38 _ rfl rfl Try.underlying38 rfl (size34)) ?_
        (try simp only [Act.put, List.getElem_toArray, List.getElem_cons_succ, List.getElem_cons_zero, List.setIfInBounds_toArray, List.set_cons_zero, List.set_cons_succ])
        refine kb_call KR.out 10 #[.agg (poA ⟨x.p0, x.p1, x.p2, x.p3, x.p4, x.p5, x.p6, x.p7, false, false, 4, 0, 1, (v.r : Nat), (v.c : Nat), (v.b : Nat), (v.p : Nat), 0, 0, 1, x.p20⟩), .agg (cfA ⟨0, 0, 0, n, 0, 0⟩)] (.tuple #[.agg (poA ⟨x.p0, x.p1, x.p2, x.p3, x.p4, x.p5, x.p6, x.p7, false, false, 4, 1, 1, (v.r : Nat), (v.c : Nat), (v.b : Nat), (v.p : Nat), 0, 0, n, x.p20⟩), .bool false]) (by rfl) (by go_simp) (step_is ⟨x.p0, x.p1, x.p2, x.p3, x.p4, x.p5, x.p6, x.p7, false, false, 4, 0, 1, (v.r : Nat), (v.c : Nat), (v.b : Nat), (v.p : Nat), 0, 0, 1, x.p20⟩ ⟨x.p0, x.p1, x.p2, x.p3, x.p4, x.p5, x.p6, x.p7, false, false, 4, 1, 1, (v.r : Nat), (v.c : Nat), (v.b : Nat), (v.p : Nat), 0, 0, n, x.p20⟩ ⟨0, 0, 0, n, 0, 0⟩ false (turn_p x v n) (by show (decide (1 = (2 : Int)) && !decide (0 = (2 : Int))) = _; simp) wr) ?_
        intro w12 hk
        have K12 := Lib.hid (show Kb w [(b1, lqA y, 26), (b3, cfA ⟨0, 0, 0, n, 0, 0⟩, 38), (b6, poA ⟨x.p0, x.p1, x.p2, x.p3, x.p4, x.p5, x.p6, x.p7, false, false, 4, 0, 1, (v.r : Nat), (v.c : Nat), (v.b : Nat), (v.p : Nat), 0, 0, 1, x.p20⟩, 42)] w12 from hk)
        clear hk
        (try simp only [Act.put, List.getElem_toArray, List.getElem_cons_succ, List.getElem_cons_zero, List.setIfInBounds_toArray, List.set_cons_zero, List.set_cons_succ])
        refine wpList_val (.tuple #[.agg (poA ⟨x.p0, x.p1, x.p2, x.p3, x.p4, x.p5, x.p6, x.p7, false, false, 4, 1, 1, (v.r : Nat), (v.c : Nat), (v.b : Nat), (v.p : Nat), 0, 0, n, x.p20⟩), .bool false]) (by rfl) (by go_simp) ?_
        (try simp only [Act.put, List.getElem_toArray, List.getElem_cons_succ, List.getElem_cons_zero, List.setIfInBounds_toArray, List.set_cons_zero, List.set_cons_succ])
        refine wpList_val (.agg (poA ⟨x.p0, x.p1, x.p2, x.p3, x.p4, x.p5, x.p6, x.p7, false, false, 4, 1, 1, (v.r : Nat), (v.c : Nat), (v.b : Nat), (v.p : Nat), 0, 0, n, x.p20⟩)) (by rfl) (by go_simp) ?_
        (try simp only [Act.put, List.getElem_toArray, List.getElem_cons_succ, List.getElem_cons_zero, List.setIfInBounds_toArray, List.set_cons_zero, List.set_cons_succ])
        refine wpList_val (.bool false) (by rfl) (by go_simp) ?_
        (try simp only [Act.put, List.getElem_toArray, List.getElem_cons_succ, List.getElem_cons_zero, List.setIfInBounds_toArray, List.set_cons_zero, List.set_cons_succ])
        refine kb_row K12.out 2 rfl 42 _ _ (poA ⟨x.p0, x.p1, x.p2, x.p3, x.p4, x.p5, x.p6, x.p7, false, false, 4, 1, 1, (v.r : Nat), (v.c : Nat), (v.b : Nat), (v.p : Nat), 0, 0, n, x.p20⟩) rfl rfl rfl rfl (size50) (by rfl) (po_all _) ?_
        intro w13 hk
        have K13 := Lib.hid (show Kb w [(b1, lqA y, 26), (b3, cfA ⟨0, 0, 0, n, 0, 0⟩, 38), (b6, poA ⟨x.p0, x.p1, x.p2, x.p3, x.p4, x.p5, x.p6, x.p7, false, false, 4, 1, 1, (v.r : Nat), (v.c : Nat), (v.b : Nat), (v.p : Nat), 0, 0, n, x.p20⟩, 42)] w13 from hk)
        clear hk
        (try simp only [Act.put, List.getElem_toArray, List.getElem_cons_succ, List.getElem_cons_zero, List.setIfInBounds_toArray, List.set_cons_zero, List.set_cons_succ])
        refine wpList_val (.bool false) (by rfl) (by go_simp) ?_
        (try simp only [Act.put, List.getElem_toArray, List.getElem_cons_succ, List.getElem_cons_zero, List.setIfInBounds_toArray, List.set_cons_zero, List.set_cons_succ])
        refine wpList_nil ?_
        go_upto_region 13 with fail
        refine wp_region_lit ?_
        refine wpList_val (.bool false) (by rfl) (by go_simp) ?_
        (try simp only [Act.put, List.getElem_toArray, List.getElem_cons_succ, List.getElem_cons_zero, List.setIfInBounds_toArray, List.set_cons_zero, List.set_cons_succ])
        refine wpList_val (.int .i64 (k : Nat)) (by rfl) (by go_simp) ?_
        (try simp only [Act.put, List.getElem_toArray, List.getElem_cons_succ, List.getElem_cons_zero, List.setIfInBounds_toArray, List.set_cons_zero, List.set_cons_succ])
        refine wpList_val (.int .i64 n) (by rfl) (by go_simp) ?_
        (try simp only [Act.put, List.getElem_toArray, List.getElem_cons_succ, List.getElem_cons_zero, List.setIfInBounds_toArray, List.set_cons_zero, List.set_cons_succ])
        refine wpList_val (.int .i64 tt) (by rfl) (by rw [← HW.out]; go_simp) ?_
        (try simp only [Act.put, List.getElem_toArray, List.getElem_cons_succ, List.getElem_cons_zero, List.setIfInBounds_toArray, List.set_cons_zero, List.set_cons_succ])
        refine wpList_val (.bool false) (by rfl) (by have q := HEQ.out; go_simp) ?_
        (try simp only [Act.put, List.getElem_toArray, List.getElem_cons_succ, List.getElem_cons_zero, List.setIfInBounds_toArray, List.set_cons_zero, List.set_cons_succ])
        refine wpList_val (.bool false) (by rfl) (by go_simp) ?_
        (try simp only [Act.put, List.getElem_toArray, List.getElem_cons_succ, List.getElem_cons_zero, List.setIfInBounds_toArray, List.set_cons_zero, List.set_cons_succ])
        refine wpList_val (.bool false) (by rfl) (by go_simp) ?_
        (try simp only [Act.put, List.getElem_toArray, List.getElem_cons_succ, List.getElem_cons_zero, List.setIfInBounds_toArray, List.set_cons_zero, List.set_cons_succ])
        refine wpList_val (.pointer (some ⟨b6, 11, none⟩)) (by rfl) (by go_simp) ?_
        (try simp only [Act.put, List.getElem_toArray, List.getElem_cons_succ, List.getElem_cons_zero, List.setIfInBounds_toArray, List.set_cons_zero, List.set_cons_succ])
        refine wpList_val (.int .i64 1) (by rfl) (by have q : w13.cell? ⟨b6, 11, none⟩ = some (.int .i64 1) := K13.out.cell (i := 2) rfl (by rfl); go_simp) ?_
        (try simp only [Act.put, List.getElem_toArray, List.getElem_cons_succ, List.getElem_cons_zero, List.setIfInBounds_toArray, List.set_cons_zero, List.set_cons_succ])
        refine wpList_val (.bool false) (by rfl) (by go_simp) ?_
        (try simp only [Act.put, List.getElem_toArray, List.getElem_cons_succ, List.getElem_cons_zero, List.setIfInBounds_toArray, List.set_cons_zero, List.set_cons_succ])
        refine wpList_val (.int .i64 (k : Nat)) (by rfl) (by go_simp) ?_
        (try simp only [Act.put, List.getElem_toArray, List.getElem_cons_succ, List.getElem_cons_zero, List.setIfInBounds_toArray, List.set_cons_zero, List.set_cons_succ])
        refine wpList_val (.int .i64 n) (by rfl) (by go_simp) ?_
        (try simp only [Act.put, List.getElem_toArray, List.getElem_cons_succ, List.getElem_cons_zero, List.setIfInBounds_toArray, List.set_cons_zero, List.set_cons_succ])
        refine wpList_val (.int .i64 tt) (by rfl) (by rw [← HW.out]; go_simp) ?_
        (try simp only [Act.put, List.getElem_toArray, List.getElem_cons_succ, List.getElem_cons_zero, List.setIfInBounds_toArray, List.set_cons_zero, List.set_cons_succ])
        refine wpList_val (.bool false) (by rfl) (by have q := HEQ.out; go_simp) ?_
        (try simp only [Act.put, List.getElem_toArray, List.getElem_cons_succ, List.getElem_cons_zero, List.setIfInBounds_toArray, List.set_cons_zero, List.set_cons_succ])
        refine wpList_val (.bool false) (by rfl) (by go_simp) ?_
        (try simp only [Act.put, List.getElem_toArray, List.getElem_cons_succ, List.getElem_cons_zero, List.setIfInBounds_toArray, List.set_cons_zero, List.set_cons_succ])
        refine wpList_val (.bool false) (by rfl) (run_pick_no (.tmp 51) (.const (.bool true)) (.tmp 59) _ rfl rfl rfl) ?_
        (try simp only [Act.put, List.getElem_toArray, List.getElem_cons_succ, List.getElem_cons_zero, List.setIfInBounds_toArray, List.set_cons_zero, List.set_cons_succ])
        refine wpList_val (.bool false) (by rfl) (by go_simp) ?_
        (try simp only [Act.put, List.getElem_toArray, List.getElem_cons_succ, List.getElem_cons_zero, List.setIfInBounds_toArray, List.set_cons_zero, List.set_cons_succ])
        refine wpList_val (.pointer (some ⟨b6, 11, none⟩)) (by rfl) (by go_simp) ?_
        (try simp only [Act.put, List.getElem_toArray, List.getElem_cons_succ, List.getElem_cons_zero, List.setIfInBounds_toArray, List.set_cons_zero, List.set_cons_succ])
        refine wpList_val (.int .i64 1) (by rfl) (by have q : w13.cell? ⟨b6, 11, none⟩ = some (.int .i64 1) := K13.out.cell (i := 2) rfl (by rfl); go_simp) ?_
        (try simp only [Act.put, List.getElem_toArray, List.getElem_cons_succ, List.getElem_cons_zero, List.setIfInBounds_toArray, List.set_cons_zero, List.set_cons_succ])
        refine wpList_val (.bool false) (by rfl) (by go_simp) ?_
        (try simp only [Act.put, List.getElem_toArray, List.getElem_cons_succ, List.getElem_cons_zero, List.setIfInBounds_toArray, List.set_cons_zero, List.set_cons_succ])
        refine wpList_val (.int .i64 (k : Nat)) (by rfl) (by go_simp) ?_
        (try simp only [Act.put, List.getElem_toArray, List.getElem_cons_succ, List.getElem_cons_zero, List.setIfInBounds_toArray, List.set_cons_zero, List.set_cons_succ])
        refine wpList_val (.int .i64 n) (by rfl) (by go_simp) ?_
        (try simp only [Act.put, List.getElem_toArray, List.getElem_cons_succ, List.getElem_cons_zero, List.setIfInBounds_toArray, List.set_cons_zero, List.set_cons_succ])
        refine wpList_val (.bool false) (by rfl) (by have q := HLT.out; go_simp) ?_
        (try simp only [Act.put, List.getElem_toArray, List.getElem_cons_succ, List.getElem_cons_zero, List.setIfInBounds_toArray, List.set_cons_zero, List.set_cons_succ])
        refine wpList_val (.bool false) (by rfl) (by go_simp) ?_
        (try simp only [Act.put, List.getElem_toArray, List.getElem_cons_succ, List.getElem_cons_zero, List.setIfInBounds_toArray, List.set_cons_zero, List.set_cons_succ])
        refine wpList_val (.bool false) (by rfl) (run_pick_no (.tmp 61) (.const (.bool true)) (.tmp 68) _ rfl rfl rfl) ?_
        (try simp only [Act.put, List.getElem_toArray, List.getElem_cons_succ, List.getElem_cons_zero, List.setIfInBounds_toArray, List.set_cons_zero, List.set_cons_succ])
        refine wpList_nil ?_
        have hkb : (k : Int) < 61 := by have := HLE.out; have := HT.out; omega
        go_wp2_with fail
        go_roundw
        case rel => exact ⟨k + 1, 1, n, by omega, by have q0 := HT.out; have q1 := HWT.out; have q2 := HLE.out; unfold Phase; omega, by go_num, K13.out⟩
        case measure => have := HLE.out; have := HT.out; simp [intOf]; omega
    case inr.inl =>
      subst c2
      by_cases c4 : (k : Int) < 2 * n
      case pos =>
        have HLE := Lib.hid (show (k : Int) ≤ tt by have := HT.out; omega)
        have HEQ := Lib.hid (show ¬ (k : Int) = tt by have := HT.out; omega)
        have HLT := Lib.hid (show ¬ (k : Int) < n by have := HT.out; omega)
        obtain ⟨wu, hwu⟩ : ∃ z, z = wt - 1 := ⟨_, rfl⟩
        have HWT := Lib.hid (show 1 < wt ∧ wt ≤ 100 ∧ wu = wt - 1 ∧ wt = 2 * n + 1 - k ∧ (k : Int) < 2 * n ∧ n < k from ⟨by omega, by have := HT.out; omega, hwu, c3, c4, c0⟩)
        clear c0 c1 c3 c4 hwu HPH
        go_upto_region 9 with fail
        refine wp_region_lit ?_
        refine wpList_val (.int .i64 (k : Nat)) (by rfl) (by go_simp) ?_
        (try simp only [Act.put, List.getElem_toArray, List.getElem_cons_succ, List.getElem_cons_zero, List.setIfInBounds_toArray, List.set_cons_zero, List.set_cons_succ])
        refine wpList_val (.int .i64 n) (by rfl) (by go_simp) ?_
        (try simp only [Act.put, List.getElem_toArray, List.getElem_cons_succ, List.getElem_cons_zero, List.setIfInBounds_toArray, List.set_cons_zero, List.set_cons_succ])
        refine wpList_val (.int .i64 tt) (by rfl) (by rw [← HW.out]; go_simp) ?_
        (try simp only [Act.put, List.getElem_toArray, List.getElem_cons_succ, List.getElem_cons_zero, List.setIfInBounds_toArray, List.set_cons_zero, List.set_cons_succ])
        refine wpList_val (.bool true) (by rfl) (by have q := HLE.out; go_simp) ?_
        (try simp only [Act.put, List.getElem_toArray, List.getElem_cons_succ, List.getElem_cons_zero, List.setIfInBounds_toArray, List.set_cons_zero, List.set_cons_succ])
        refine wpList_nil ?_
        go_upto_region 11 with fail
        refine wp_region_lit ?_
        refine wpList_val (.bool false) (by rfl) (by go_simp) ?_
        (try simp only [Act.put, List.getElem_toArray, List.getElem_cons_succ, List.getElem_cons_zero, List.setIfInBounds_toArray, List.set_cons_zero, List.set_cons_succ])
        refine wpList_nil ?_
        go_upto_region 12 with fail
        refine wp_region_lit ?_
        refine wpList_val (.agg (poA ⟨x.p0, x.p1, x.p2, x.p3, x.p4, x.p5, x.p6, x.p7, false, false, 4, 1, 1, (v.r : Nat), (v.c : Nat), (v.b : Nat), (v.p : Nat), 0, 0, wt, x.p20⟩)) (by rfl) (kb_all KR.out 2 rfl 42 _ rfl rfl Try.underlying42 rfl (size50)) ?_
        (try simp only [Act.put, List.getElem_toArray, List.getElem_cons_succ, List.getElem_cons_zero, List.setIfInBounds_toArray, List.set_cons_zero, List.set_cons_succ])
        refine wpList_val (.agg (cfA ⟨0, 0, 0, n, 0, 0⟩)) (by rfl) (kb_all KR.out 1 rfl 38 _ rfl rfl Try.underlying38 rfl (size34)) ?_
        (try simp only [Act.put, List.getElem_toArray, List.getElem_cons_succ, List.getElem_cons_zero, List.setIfInBounds_toArray, List.set_cons_zero, List.set_cons_succ])
        refine kb_call KR.out 10 #[.agg (poA ⟨x.p0, x.p1, x.p2, x.p3, x.p4, x.p5, x.p6, x.p7, false, false, 4, 1, 1, (v.r : Nat), (v.c : Nat), (v.b : Nat), (v.p : Nat), 0, 0, wt, x.p20⟩), .agg (cfA ⟨0, 0, 0, n, 0, 0⟩)] (.tuple #[.agg (poA ⟨x.p0, x.p1, x.p2, x.p3, x.p4, x.p5, x.p6, x.p7, false, false, 4, 1, 1, (v.r : Nat), (v.c : Nat), (v.b : Nat), (v.p : Nat), 0, 0, wu, x.p20⟩), .bool false]) (by rfl) (by go_simp) (step_is ⟨x.p0, x.p1, x.p2, x.p3, x.p4, x.p5, x.p6, x.p7, false, false, 4, 1, 1, (v.r : Nat), (v.c : Nat), (v.b : Nat), (v.p : Nat), 0, 0, wt, x.p20⟩ ⟨x.p0, x.p1, x.p2, x.p3, x.p4, x.p5, x.p6, x.p7, false, false, 4, 1, 1, (v.r : Nat), (v.c : Nat), (v.b : Nat), (v.p : Nat), 0, 0, wu, x.p20⟩ ⟨0, 0, 0, n, 0, 0⟩ false (wait_p x v 1 wt wu n (by decide) HWT.out.1 HWT.out.2.1 HWT.out.2.2.1) (by show (decide (1 = (2 : Int)) && !decide (1 = (2 : Int))) = _; simp) wr) ?_
        intro w12 hk
        have K12 := Lib.hid (show Kb w [(b1, lqA y, 26), (b3, cfA ⟨0, 0, 0, n, 0, 0⟩, 38), (b6, poA ⟨x.p0, x.p1, x.p2, x.p3, x.p4, x.p5, x.p6, x.p7, false, false, 4, 1, 1, (v.r : Nat), (v.c : Nat), (v.b : Nat), (v.p : Nat), 0, 0, wt, x.p20⟩, 42)] w12 from hk)
        clear hk
        (try simp only [Act.put, List.getElem_toArray, List.getElem_cons_succ, List.getElem_cons_zero, List.setIfInBounds_toArray, List.set_cons_zero, List.set_cons_succ])
        refine wpList_val (.tuple #[.agg (poA ⟨x.p0, x.p1, x.p2, x.p3, x.p4, x.p5, x.p6, x.p7, false, false, 4, 1, 1, (v.r : Nat), (v.c : Nat), (v.b : Nat), (v.p : Nat), 0, 0, wu, x.p20⟩), .bool false]) (by rfl) (by go_simp) ?_
        (try simp only [Act.put, List.getElem_toArray, List.getElem_cons_succ, List.getElem_cons_zero, List.setIfInBounds_toArray, List.set_cons_zero, List.set_cons_succ])
        refine wpList_val (.agg (poA ⟨x.p0, x.p1, x.p2, x.p3, x.p4, x.p5, x.p6, x.p7, false, false, 4, 1, 1, (v.r : Nat), (v.c : Nat), (v.b : Nat), (v.p : Nat), 0, 0, wu, x.p20⟩)) (by rfl) (by go_simp) ?_
        (try simp only [Act.put, List.getElem_toArray, List.getElem_cons_succ, List.getElem_cons_zero, List.setIfInBounds_toArray, List.set_cons_zero, List.set_cons_succ])
        refine wpList_val (.bool false) (by rfl) (by go_simp) ?_
        (try simp only [Act.put, List.getElem_toArray, List.getElem_cons_succ, List.getElem_cons_zero, List.setIfInBounds_toArray, List.set_cons_zero, List.set_cons_succ])
        refine kb_row K12.out 2 rfl 42 _ _ (poA ⟨x.p0, x.p1, x.p2, x.p3, x.p4, x.p5, x.p6, x.p7, false, false, 4, 1, 1, (v.r : Nat), (v.c : Nat), (v.b : Nat), (v.p : Nat), 0, 0, wu, x.p20⟩) rfl rfl rfl rfl (size50) (by rfl) (po_all _) ?_
        intro w13 hk
        have K13 := Lib.hid (show Kb w [(b1, lqA y, 26), (b3, cfA ⟨0, 0, 0, n, 0, 0⟩, 38), (b6, poA ⟨x.p0, x.p1, x.p2, x.p3, x.p4, x.p5, x.p6, x.p7, false, false, 4, 1, 1, (v.r : Nat), (v.c : Nat), (v.b : Nat), (v.p : Nat), 0, 0, wu, x.p20⟩, 42)] w13 from hk)
        clear hk
        (try simp only [Act.put, List.getElem_toArray, List.getElem_cons_succ, List.getElem_cons_zero, List.setIfInBounds_toArray, List.set_cons_zero, List.set_cons_succ])
        refine wpList_val (.bool false) (by rfl) (by go_simp) ?_
        (try simp only [Act.put, List.getElem_toArray, List.getElem_cons_succ, List.getElem_cons_zero, List.setIfInBounds_toArray, List.set_cons_zero, List.set_cons_succ])
        refine wpList_nil ?_
        go_upto_region 13 with fail
        refine wp_region_lit ?_
        refine wpList_val (.bool false) (by rfl) (by go_simp) ?_
        (try simp only [Act.put, List.getElem_toArray, List.getElem_cons_succ, List.getElem_cons_zero, List.setIfInBounds_toArray, List.set_cons_zero, List.set_cons_succ])
        refine wpList_val (.int .i64 (k : Nat)) (by rfl) (by go_simp) ?_
        (try simp only [Act.put, List.getElem_toArray, List.getElem_cons_succ, List.getElem_cons_zero, List.setIfInBounds_toArray, List.set_cons_zero, List.set_cons_succ])
        refine wpList_val (.int .i64 n) (by rfl) (by go_simp) ?_
        (try simp only [Act.put, List.getElem_toArray, List.getElem_cons_succ, List.getElem_cons_zero, List.setIfInBounds_toArray, List.set_cons_zero, List.set_cons_succ])
        refine wpList_val (.int .i64 tt) (by rfl) (by rw [← HW.out]; go_simp) ?_
        (try simp only [Act.put, List.getElem_toArray, List.getElem_cons_succ, List.getElem_cons_zero, List.setIfInBounds_toArray, List.set_cons_zero, List.set_cons_succ])
        refine wpList_val (.bool false) (by rfl) (by have q := HEQ.out; go_simp) ?_
        (try simp only [Act.put, List.getElem_toArray, List.getElem_cons_succ, List.getElem_cons_zero, List.setIfInBounds_toArray, List.set_cons_zero, List.set_cons_succ])
        refine wpList_val (.bool false) (by rfl) (by go_simp) ?_
        (try simp only [Act.put, List.getElem_toArray, List.getElem_cons_succ, List.getElem_cons_zero, List.setIfInBounds_toArray, List.set_cons_zero, List.set_cons_succ])
        refine wpList_val (.bool false) (by rfl) (by go_simp) ?_
        (try simp only [Act.put, List.getElem_toArray, List.getElem_cons_succ, List.getElem_cons_zero, List.setIfInBounds_toArray, List.set_cons_zero, List.set_cons_succ])
        refine wpList_val (.pointer (some ⟨b6, 11, none⟩)) (by rfl) (by go_simp) ?_
        (try simp only [Act.put, List.getElem_toArray, List.getElem_cons_succ, List.getElem_cons_zero, List.setIfInBounds_toArray, List.set_cons_zero, List.set_cons_succ])
        refine wpList_val (.int .i64 1) (by rfl) (by have q : w13.cell? ⟨b6, 11, none⟩ = some (.int .i64 1) := K13.out.cell (i := 2) rfl (by rfl); go_simp) ?_
        (try simp only [Act.put, List.getElem_toArray, List.getElem_cons_succ, List.getElem_cons_zero, List.setIfInBounds_toArray, List.set_cons_zero, List.set_cons_succ])
        refine wpList_val (.bool false) (by rfl) (by go_simp) ?_
        (try simp only [Act.put, List.getElem_toArray, List.getElem_cons_succ, List.getElem_cons_zero, List.setIfInBounds_toArray, List.set_cons_zero, List.set_cons_succ])
        refine wpList_val (.int .i64 (k : Nat)) (by rfl) (by go_simp) ?_
        (try simp only [Act.put, List.getElem_toArray, List.getElem_cons_succ, List.getElem_cons_zero, List.setIfInBounds_toArray, List.set_cons_zero, List.set_cons_succ])
        refine wpList_val (.int .i64 n) (by rfl) (by go_simp) ?_
        (try simp only [Act.put, List.getElem_toArray, List.getElem_cons_succ, List.getElem_cons_zero, List.setIfInBounds_toArray, List.set_cons_zero, List.set_cons_succ])
        refine wpList_val (.int .i64 tt) (by rfl) (by rw [← HW.out]; go_simp) ?_
        (try simp only [Act.put, List.getElem_toArray, List.getElem_cons_succ, List.getElem_cons_zero, List.setIfInBounds_toArray, List.set_cons_zero, List.set_cons_succ])
        refine wpList_val (.bool false) (by rfl) (by have q := HEQ.out; go_simp) ?_
        (try simp only [Act.put, List.getElem_toArray, List.getElem_cons_succ, List.getElem_cons_zero, List.setIfInBounds_toArray, List.set_cons_zero, List.set_cons_succ])
        refine wpList_val (.bool false) (by rfl) (by go_simp) ?_
        (try simp only [Act.put, List.getElem_toArray, List.getElem_cons_succ, List.getElem_cons_zero, List.setIfInBounds_toArray, List.set_cons_zero, List.set_cons_succ])
        refine wpList_val (.bool false) (by rfl) (run_pick_no (.tmp 51) (.const (.bool true)) (.tmp 59) _ rfl rfl rfl) ?_
        (try simp only [Act.put, List.getElem_toArray, List.getElem_cons_succ, List.getElem_cons_zero, List.setIfInBounds_toArray, List.set_cons_zero, List.set_cons_succ])
        refine wpList_val (.bool false) (by rfl) (by go_simp) ?_
        (try simp only [Act.put, List.getElem_toArray, List.getElem_cons_succ, List.getElem_cons_zero, List.setIfInBounds_toArray, List.set_cons_zero, List.set_cons_succ])
        refine wpList_val (.pointer (some ⟨b6, 11, none⟩)) (by rfl) (by go_simp) ?_
        (try simp only [Act.put, List.getElem_toArray, List.getElem_cons_succ, List.getElem_cons_zero, List.setIfInBounds_toArray, List.set_cons_zero, List.set_cons_succ])
        refine wpList_val (.int .i64 1) (by rfl) (by have q : w13.cell? ⟨b6, 11, none⟩ = some (.int .i64 1) := K13.out.cell (i := 2) rfl (by rfl); go_simp) ?_
        (try simp only [Act.put, List.getElem_toArray, List.getElem_cons_succ, List.getElem_cons_zero, List.setIfInBounds_toArray, List.set_cons_zero, List.set_cons_succ])
        refine wpList_val (.bool false) (by rfl) (by go_simp) ?_
        (try simp only [Act.put, List.getElem_toArray, List.getElem_cons_succ, List.getElem_cons_zero, List.setIfInBounds_toArray, List.set_cons_zero, List.set_cons_succ])
        refine wpList_val (.int .i64 (k : Nat)) (by rfl) (by go_simp) ?_
        (try simp only [Act.put, List.getElem_toArray, List.getElem_cons_succ, List.getElem_cons_zero, List.setIfInBounds_toArray, List.set_cons_zero, List.set_cons_succ])
        refine wpList_val (.int .i64 n) (by rfl) (by go_simp) ?_
        (try simp only [Act.put, List.getElem_toArray, List.getElem_cons_succ, List.getElem_cons_zero, List.setIfInBounds_toArray, List.set_cons_zero, List.set_cons_succ])
        refine wpList_val (.bool false) (by rfl) (by have q := HLT.out; go_simp) ?_
        (try simp only [Act.put, List.getElem_toArray, List.getElem_cons_succ, List.getElem_cons_zero, List.setIfInBounds_toArray, List.set_cons_zero, List.set_cons_succ])
        refine wpList_val (.bool false) (by rfl) (by go_simp) ?_
        (try simp only [Act.put, List.getElem_toArray, List.getElem_cons_succ, List.getElem_cons_zero, List.setIfInBounds_toArray, List.set_cons_zero, List.set_cons_succ])
        refine wpList_val (.bool false) (by rfl) (run_pick_no (.tmp 61) (.const (.bool true)) (.tmp 68) _ rfl rfl rfl) ?_
        (try simp only [Act.put, List.getElem_toArray, List.getElem_cons_succ, List.getElem_cons_zero, List.setIfInBounds_toArray, List.set_cons_zero, List.set_cons_succ])
        refine wpList_nil ?_
        have hkb : (k : Int) < 61 := by have := HLE.out; have := HT.out; omega
        go_wp2_with fail
        go_roundw
        case rel => exact ⟨k + 1, 1, wu, by omega, by have q0 := HT.out; have q1 := HWT.out; have q2 := HLE.out; unfold Phase; omega, by go_num, K13.out⟩
        case measure => have := HLE.out; have := HT.out; simp [intOf]; omega
      case neg =>
        obtain rfl : wt = 1 := by omega
        have HLE := Lib.hid (show (k : Int) ≤ tt by have := HT.out; omega)
        have HEQ := Lib.hid (show (k : Int) = tt by have := HT.out; omega)
        have HLT := Lib.hid (show ¬ (k : Int) < n by have := HT.out; omega)
        have HWT := Lib.hid (show (k : Int) = 2 * n by omega)
        clear c0 c1 c3 c4 HPH
        go_upto_region 9 with fail
        refine wp_region_lit ?_
        refine wpList_val (.int .i64 (k : Nat)) (by rfl) (by go_simp) ?_
        (try simp only [Act.put, List.getElem_toArray, List.getElem_cons_succ, List.getElem_cons_zero, List.setIfInBounds_toArray, List.set_cons_zero, List.set_cons_succ])
        refine wpList_val (.int .i64 n) (by rfl) (by go_simp) ?_
        (try simp only [Act.put, List.getElem_toArray, List.getElem_cons_succ, List.getElem_cons_zero, List.setIfInBounds_toArray, List.set_cons_zero, List.set_cons_succ])
        refine wpList_val (.int .i64 tt) (by rfl) (by rw [← HW.out]; go_simp) ?_
        (try simp only [Act.put, List.getElem_toArray, List.getElem_cons_succ, List.getElem_cons_zero, List.setIfInBounds_toArray, List.set_cons_zero, List.set_cons_succ])
        refine wpList_val (.bool true) (by rfl) (by have q := HLE.out; go_simp) ?_
        (try simp only [Act.put, List.getElem_toArray, List.getElem_cons_succ, List.getElem_cons_zero, List.setIfInBounds_toArray, List.set_cons_zero, List.set_cons_succ])
        refine wpList_nil ?_
        go_upto_region 11 with fail
        refine wp_region_lit ?_
        refine wpList_val (.bool false) (by rfl) (by go_simp) ?_
        (try simp only [Act.put, List.getElem_toArray, List.getElem_cons_succ, List.getElem_cons_zero, List.setIfInBounds_toArray, List.set_cons_zero, List.set_cons_succ])
        refine wpList_nil ?_
        go_upto_region 12 with fail
        refine wp_region_lit ?_
        refine wpList_val (.agg (poA ⟨x.p0, x.p1, x.p2, x.p3, x.p4, x.p5, x.p6, x.p7, false, false, 4, 1, 1, (v.r : Nat), (v.c : Nat), (v.b : Nat), (v.p : Nat), 0, 0, 1, x.p20⟩)) (by rfl) (kb_all KR.out 2 rfl 42 _ rfl rfl Try.underlying42 rfl (size50)) ?_
        (try simp only [Act.put, List.getElem_toArray, List.getElem_cons_succ, List.getElem_cons_zero, List.setIfInBounds_toArray, List.set_cons_zero, List.set_cons_succ])
        refine wpList_val (.agg (cfA ⟨0, 0, 0, n, 0, 0⟩)) (by rfl) (kb_all KR.out 1 rfl 38 _ rfl rfl Try.underlying38 rfl (size34)) ?_
        (try simp only [Act.put, List.getElem_toArray, List.getElem_cons_succ, List.getElem_cons_zero, List.setIfInBounds_toArray, List.set_cons_zero, List.set_cons_succ])
        refine kb_call KR.out 10 #[.agg (poA ⟨x.p0, x.p1, x.p2, x.p3, x.p4, x.p5, x.p6, x.p7, false, false, 4, 1, 1, (v.r : Nat), (v.c : Nat), (v.b : Nat), (v.p : Nat), 0, 0, 1, x.p20⟩), .agg (cfA ⟨0, 0, 0, n, 0, 0⟩)] (.tuple #[.agg (poA ⟨x.p0, x.p1, x.p2, x.p3, x.p4, x.p5, x.p6, x.p7, false, false, 4, 2, 1, (v.r : Nat), (v.c : Nat), (v.b : Nat), (v.p : Nat), 0, 0, 0, x.p20⟩), .bool true]) (by rfl) (by go_simp) (step_is ⟨x.p0, x.p1, x.p2, x.p3, x.p4, x.p5, x.p6, x.p7, false, false, 4, 1, 1, (v.r : Nat), (v.c : Nat), (v.b : Nat), (v.p : Nat), 0, 0, 1, x.p20⟩ ⟨x.p0, x.p1, x.p2, x.p3, x.p4, x.p5, x.p6, x.p7, false, false, 4, 2, 1, (v.r : Nat), (v.c : Nat), (v.b : Nat), (v.p : Nat), 0, 0, 0, x.p20⟩ ⟨0, 0, 0, n, 0, 0⟩ true (last_p x v n) (by show (decide (2 = (2 : Int)) && !decide (1 = (2 : Int))) = _; simp) wr) ?_
        intro w12 hk
        have K12 := Lib.hid (show Kb w [(b1, lqA y, 26), (b3, cfA ⟨0, 0, 0, n, 0, 0⟩, 38), (b6, poA ⟨x.p0, x.p1, x.p2, x.p3, x.p4, x.p5, x.p6, x.p7, false, false, 4, 1, 1, (v.r : Nat), (v.c : Nat), (v.b : Nat), (v.p : Nat), 0, 0, 1, x.p20⟩, 42)] w12 from hk)
        clear hk
        (try simp only [Act.put, List.getElem_toArray, List.getElem_cons_succ, List.getElem_cons_zero, List.setIfInBounds_toArray, List.set_cons_zero, List.set_cons_succ])
        refine wpList_val (.tuple #[.agg (poA ⟨x.p0, x.p1, x.p2, x.p3, x.p4, x.p5, x.p6, x.p7, false, false, 4, 2, 1, (v.r : Nat), (v.c : Nat), (v.b : Nat), (v.p : Nat), 0, 0, 0, x.p20⟩), .bool true]) (by rfl) (by go_simp) ?_
        (try simp only [Act.put, List.getElem_toArray, List.getElem_cons_succ, List.getElem_cons_zero, List.setIfInBounds_toArray, List.set_cons_zero, List.set_cons_succ])
        refine wpList_val (.agg (poA ⟨x.p0, x.p1, x.p2, x.p3, x.p4, x.p5, x.p6, x.p7, false, false, 4, 2, 1, (v.r : Nat), (v.c : Nat), (v.b : Nat), (v.p : Nat), 0, 0, 0, x.p20⟩)) (by rfl) (by go_simp) ?_
        (try simp only [Act.put, List.getElem_toArray, List.getElem_cons_succ, List.getElem_cons_zero, List.setIfInBounds_toArray, List.set_cons_zero, List.set_cons_succ])
        refine wpList_val (.bool true) (by rfl) (by go_simp) ?_
        (try simp only [Act.put, List.getElem_toArray, List.getElem_cons_succ, List.getElem_cons_zero, List.setIfInBounds_toArray, List.set_cons_zero, List.set_cons_succ])
        refine kb_row K12.out 2 rfl 42 _ _ (poA ⟨x.p0, x.p1, x.p2, x.p3, x.p4, x.p5, x.p6, x.p7, false, false, 4, 2, 1, (v.r : Nat), (v.c : Nat), (v.b : Nat), (v.p : Nat), 0, 0, 0, x.p20⟩) rfl rfl rfl rfl (size50) (by rfl) (po_all _) ?_
        intro w13 hk
        have K13 := Lib.hid (show Kb w [(b1, lqA y, 26), (b3, cfA ⟨0, 0, 0, n, 0, 0⟩, 38), (b6, poA ⟨x.p0, x.p1, x.p2, x.p3, x.p4, x.p5, x.p6, x.p7, false, false, 4, 2, 1, (v.r : Nat), (v.c : Nat), (v.b : Nat), (v.p : Nat), 0, 0, 0, x.p20⟩, 42)] w13 from hk)
        clear hk
        (try simp only [Act.put, List.getElem_toArray, List.getElem_cons_succ, List.getElem_cons_zero, List.setIfInBounds_toArray, List.set_cons_zero, List.set_cons_succ])
        refine wpList_val (.bool true) (by rfl) (by go_simp) ?_
        (try simp only [Act.put, List.getElem_toArray, List.getElem_cons_succ, List.getElem_cons_zero, List.setIfInBounds_toArray, List.set_cons_zero, List.set_cons_succ])
        refine wpList_nil ?_
        go_upto_region 13 with fail
        refine wp_region_lit ?_
        refine wpList_val (.bool true) (by rfl) (by go_simp) ?_
        (try simp only [Act.put, List.getElem_toArray, List.getElem_cons_succ, List.getElem_cons_zero, List.setIfInBounds_toArray, List.set_cons_zero, List.set_cons_succ])
        refine wpList_val (.int .i64 (k : Nat)) (by rfl) (by go_simp) ?_
        (try simp only [Act.put, List.getElem_toArray, List.getElem_cons_succ, List.getElem_cons_zero, List.setIfInBounds_toArray, List.set_cons_zero, List.set_cons_succ])
        refine wpList_val (.int .i64 n) (by rfl) (by go_simp) ?_
        (try simp only [Act.put, List.getElem_toArray, List.getElem_cons_succ, List.getElem_cons_zero, List.setIfInBounds_toArray, List.set_cons_zero, List.set_cons_succ])
        refine wpList_val (.int .i64 tt) (by rfl) (by rw [← HW.out]; go_simp) ?_
        (try simp only [Act.put, List.getElem_toArray, List.getElem_cons_succ, List.getElem_cons_zero, List.setIfInBounds_toArray, List.set_cons_zero, List.set_cons_succ])
        refine wpList_val (.bool true) (by rfl) (by have q := HEQ.out; go_simp) ?_
        (try simp only [Act.put, List.getElem_toArray, List.getElem_cons_succ, List.getElem_cons_zero, List.setIfInBounds_toArray, List.set_cons_zero, List.set_cons_succ])
        refine wpList_val (.bool false) (by rfl) (by go_simp) ?_
        (try simp only [Act.put, List.getElem_toArray, List.getElem_cons_succ, List.getElem_cons_zero, List.setIfInBounds_toArray, List.set_cons_zero, List.set_cons_succ])
        refine wpList_val (.bool false) (by rfl) (by go_simp) ?_
        (try simp only [Act.put, List.getElem_toArray, List.getElem_cons_succ, List.getElem_cons_zero, List.setIfInBounds_toArray, List.set_cons_zero, List.set_cons_succ])
        refine wpList_val (.pointer (some ⟨b6, 11, none⟩)) (by rfl) (by go_simp) ?_
        (try simp only [Act.put, List.getElem_toArray, List.getElem_cons_succ, List.getElem_cons_zero, List.setIfInBounds_toArray, List.set_cons_zero, List.set_cons_succ])
        refine wpList_val (.int .i64 2) (by rfl) (by have q : w13.cell? ⟨b6, 11, none⟩ = some (.int .i64 2) := K13.out.cell (i := 2) rfl (by rfl); go_simp) ?_
        (try simp only [Act.put, List.getElem_toArray, List.getElem_cons_succ, List.getElem_cons_zero, List.setIfInBounds_toArray, List.set_cons_zero, List.set_cons_succ])
        refine wpList_val (.bool true) (by rfl) (by go_simp) ?_
        (try simp only [Act.put, List.getElem_toArray, List.getElem_cons_succ, List.getElem_cons_zero, List.setIfInBounds_toArray, List.set_cons_zero, List.set_cons_succ])
        refine wpList_val (.int .i64 (k : Nat)) (by rfl) (by go_simp) ?_
        (try simp only [Act.put, List.getElem_toArray, List.getElem_cons_succ, List.getElem_cons_zero, List.setIfInBounds_toArray, List.set_cons_zero, List.set_cons_succ])
        refine wpList_val (.int .i64 n) (by rfl) (by go_simp) ?_
        (try simp only [Act.put, List.getElem_toArray, List.getElem_cons_succ, List.getElem_cons_zero, List.setIfInBounds_toArray, List.set_cons_zero, List.set_cons_succ])
        refine wpList_val (.int .i64 tt) (by rfl) (by rw [← HW.out]; go_simp) ?_
        (try simp only [Act.put, List.getElem_toArray, List.getElem_cons_succ, List.getElem_cons_zero, List.setIfInBounds_toArray, List.set_cons_zero, List.set_cons_succ])
        refine wpList_val (.bool true) (by rfl) (by have q := HEQ.out; go_simp) ?_
        (try simp only [Act.put, List.getElem_toArray, List.getElem_cons_succ, List.getElem_cons_zero, List.setIfInBounds_toArray, List.set_cons_zero, List.set_cons_succ])
        refine wpList_val (.bool false) (by rfl) (by go_simp) ?_
        (try simp only [Act.put, List.getElem_toArray, List.getElem_cons_succ, List.getElem_cons_zero, List.setIfInBounds_toArray, List.set_cons_zero, List.set_cons_succ])
        refine wpList_val (.bool false) (by rfl) (run_pick_no (.tmp 51) (.const (.bool true)) (.tmp 59) _ rfl rfl rfl) ?_
        (try simp only [Act.put, List.getElem_toArray, List.getElem_cons_succ, List.getElem_cons_zero, List.setIfInBounds_toArray, List.set_cons_zero, List.set_cons_succ])
        refine wpList_val (.bool false) (by rfl) (by go_simp) ?_
        (try simp only [Act.put, List.getElem_toArray, List.getElem_cons_succ, List.getElem_cons_zero, List.setIfInBounds_toArray, List.set_cons_zero, List.set_cons_succ])
        refine wpList_val (.pointer (some ⟨b6, 11, none⟩)) (by rfl) (by go_simp) ?_
        (try simp only [Act.put, List.getElem_toArray, List.getElem_cons_succ, List.getElem_cons_zero, List.setIfInBounds_toArray, List.set_cons_zero, List.set_cons_succ])
        refine wpList_val (.int .i64 2) (by rfl) (by have q : w13.cell? ⟨b6, 11, none⟩ = some (.int .i64 2) := K13.out.cell (i := 2) rfl (by rfl); go_simp) ?_
        (try simp only [Act.put, List.getElem_toArray, List.getElem_cons_succ, List.getElem_cons_zero, List.setIfInBounds_toArray, List.set_cons_zero, List.set_cons_succ])
        refine wpList_val (.bool false) (by rfl) (by go_simp) ?_
        (try simp only [Act.put, List.getElem_toArray, List.getElem_cons_succ, List.getElem_cons_zero, List.setIfInBounds_toArray, List.set_cons_zero, List.set_cons_succ])
        refine wpList_val (.int .i64 (k : Nat)) (by rfl) (by go_simp) ?_
        (try simp only [Act.put, List.getElem_toArray, List.getElem_cons_succ, List.getElem_cons_zero, List.setIfInBounds_toArray, List.set_cons_zero, List.set_cons_succ])
        refine wpList_val (.int .i64 n) (by rfl) (by go_simp) ?_
        (try simp only [Act.put, List.getElem_toArray, List.getElem_cons_succ, List.getElem_cons_zero, List.setIfInBounds_toArray, List.set_cons_zero, List.set_cons_succ])
        refine wpList_val (.bool false) (by rfl) (by have q := HLT.out; go_simp) ?_
        (try simp only [Act.put, List.getElem_toArray, List.getElem_cons_succ, List.getElem_cons_zero, List.setIfInBounds_toArray, List.set_cons_zero, List.set_cons_succ])
        refine wpList_val (.bool false) (by rfl) (by go_simp) ?_
        (try simp only [Act.put, List.getElem_toArray, List.getElem_cons_succ, List.getElem_cons_zero, List.setIfInBounds_toArray, List.set_cons_zero, List.set_cons_succ])
        refine wpList_val (.bool false) (by rfl) (run_pick_no (.tmp 61) (.const (.bool true)) (.tmp 68) _ rfl rfl rfl) ?_
        (try simp only [Act.put, List.getElem_toArray, List.getElem_cons_succ, List.getElem_cons_zero, List.setIfInBounds_toArray, List.set_cons_zero, List.set_cons_succ])
        refine wpList_nil ?_
        have hkb : (k : Int) < 61 := by have := HLE.out; have := HT.out; omega
        go_wp2_with fail
        go_roundw
        case rel => exact ⟨k + 1, 2, 0, by omega, by have q0 := HT.out; have q1 := HWT.out; have q2 := HLE.out; unfold Phase; omega, by go_num, K13.out⟩
        case measure => have := HLE.out; have := HT.out; simp [intOf]; omega
    case inr.inr =>
      subst c2 c3
      have HLE := Lib.hid (show ¬ (k : Int) ≤ tt by have := HT.out; omega)
      clear c1 HPH
      go_upto_region 9 with fail
      refine wp_region_lit ?_
      refine wpList_val (.int .i64 (k : Nat)) (by rfl) (by go_simp) ?_
      (try simp only [Act.put, List.getElem_toArray, List.getElem_cons_succ, List.getElem_cons_zero, List.setIfInBounds_toArray, List.set_cons_zero, List.set_cons_succ])
      refine wpList_val (.int .i64 n) (by rfl) (by go_simp) ?_
      (try simp only [Act.put, List.getElem_toArray, List.getElem_cons_succ, List.getElem_cons_zero, List.setIfInBounds_toArray, List.set_cons_zero, List.set_cons_succ])
      refine wpList_val (.int .i64 tt) (by rfl) (by rw [← HW.out]; go_simp) ?_
      (try simp only [Act.put, List.getElem_toArray, List.getElem_cons_succ, List.getElem_cons_zero, List.setIfInBounds_toArray, List.set_cons_zero, List.set_cons_succ])
      refine wpList_val (.bool false) (by rfl) (by have q := HLE.out; go_simp) ?_
      (try simp only [Act.put, List.getElem_toArray, List.getElem_cons_succ, List.getElem_cons_zero, List.setIfInBounds_toArray, List.set_cons_zero, List.set_cons_succ])
      refine wpList_nil ?_
      go_upto_region 15 with fail
      refine wp_region_lit ?_
      refine wpList_val (.agg (poA ⟨x.p0, x.p1, x.p2, x.p3, x.p4, x.p5, x.p6, x.p7, false, false, 4, 2, 1, (v.r : Nat), (v.c : Nat), (v.b : Nat), (v.p : Nat), 0, 0, 0, x.p20⟩)) (by rfl) (kb_all KR.out 2 rfl 42 _ rfl rfl Try.underlying42 rfl (size50)) ?_
      (try simp only [Act.put, List.getElem_toArray, List.getElem_cons_succ, List.getElem_cons_zero, List.setIfInBounds_toArray, List.set_cons_zero, List.set_cons_succ])
      refine wpList_val (.agg (cfA ⟨0, 0, 0, n, 0, 0⟩)) (by rfl) (kb_all KR.out 1 rfl 38 _ rfl rfl Try.underlying38 rfl (size34)) ?_
      (try simp only [Act.put, List.getElem_toArray, List.getElem_cons_succ, List.getElem_cons_zero, List.setIfInBounds_toArray, List.set_cons_zero, List.set_cons_succ])
      refine kb_call KR.out 10 #[.agg (poA ⟨x.p0, x.p1, x.p2, x.p3, x.p4, x.p5, x.p6, x.p7, false, false, 4, 2, 1, (v.r : Nat), (v.c : Nat), (v.b : Nat), (v.p : Nat), 0, 0, 0, x.p20⟩), .agg (cfA ⟨0, 0, 0, n, 0, 0⟩)] (.tuple #[.agg (poA ⟨x.p0, x.p1, x.p2, x.p3, x.p4, x.p5, x.p6, x.p7, false, false, 4, 2, 1, (v.r : Nat), (v.c : Nat), (v.b : Nat), (v.p : Nat), 0, 0, 0, x.p20⟩), .bool false]) (by rfl) (by go_simp) (step_is ⟨x.p0, x.p1, x.p2, x.p3, x.p4, x.p5, x.p6, x.p7, false, false, 4, 2, 1, (v.r : Nat), (v.c : Nat), (v.b : Nat), (v.p : Nat), 0, 0, 0, x.p20⟩ ⟨x.p0, x.p1, x.p2, x.p3, x.p4, x.p5, x.p6, x.p7, false, false, 4, 2, 1, (v.r : Nat), (v.c : Nat), (v.b : Nat), (v.p : Nat), 0, 0, 0, x.p20⟩ ⟨0, 0, 0, n, 0, 0⟩ false (stay_p x v 0 n) (by simp [openedB]) wr) ?_
      intro w12 hk
      have K12 := Lib.hid (show Kb w [(b1, lqA y, 26), (b3, cfA ⟨0, 0, 0, n, 0, 0⟩, 38), (b6, poA ⟨x.p0, x.p1, x.p2, x.p3, x.p4, x.p5, x.p6, x.p7, false, false, 4, 2, 1, (v.r : Nat), (v.c : Nat), (v.b : Nat), (v.p : Nat), 0, 0, 0, x.p20⟩, 42)] w12 from hk)
      clear hk
      (try simp only [Act.put, List.getElem_toArray, List.getElem_cons_succ, List.getElem_cons_zero, List.setIfInBounds_toArray, List.set_cons_zero, List.set_cons_succ])
      refine wpList_val (.tuple #[.agg (poA ⟨x.p0, x.p1, x.p2, x.p3, x.p4, x.p5, x.p6, x.p7, false, false, 4, 2, 1, (v.r : Nat), (v.c : Nat), (v.b : Nat), (v.p : Nat), 0, 0, 0, x.p20⟩), .bool false]) (by rfl) (by go_simp) ?_
      (try simp only [Act.put, List.getElem_toArray, List.getElem_cons_succ, List.getElem_cons_zero, List.setIfInBounds_toArray, List.set_cons_zero, List.set_cons_succ])
      refine wpList_val (.agg (poA ⟨x.p0, x.p1, x.p2, x.p3, x.p4, x.p5, x.p6, x.p7, false, false, 4, 2, 1, (v.r : Nat), (v.c : Nat), (v.b : Nat), (v.p : Nat), 0, 0, 0, x.p20⟩)) (by rfl) (by go_simp) ?_
      (try simp only [Act.put, List.getElem_toArray, List.getElem_cons_succ, List.getElem_cons_zero, List.setIfInBounds_toArray, List.set_cons_zero, List.set_cons_succ])
      refine wpList_val (.bool false) (by rfl) (by go_simp) ?_
      (try simp only [Act.put, List.getElem_toArray, List.getElem_cons_succ, List.getElem_cons_zero, List.setIfInBounds_toArray, List.set_cons_zero, List.set_cons_succ])
      refine kb_alloc K12.out 42 (nil21) rfl z50 (by rfl) ?_
      intro b13 w13 hb13 hk
      have K13 := Lib.hid (show Kb w [(b1, lqA y, 26), (b3, cfA ⟨0, 0, 0, n, 0, 0⟩, 38), (b6, poA ⟨x.p0, x.p1, x.p2, x.p3, x.p4, x.p5, x.p6, x.p7, false, false, 4, 2, 1, (v.r : Nat), (v.c : Nat), (v.b : Nat), (v.p : Nat), 0, 0, 0, x.p20⟩, 42), (b13, nil21, 42)] w13 from hk)
      clear hk hb13
      (try simp only [Act.put, List.getElem_toArray, List.getElem_cons_succ, List.getElem_cons_zero, List.setIfInBounds_toArray, List.set_cons_zero, List.set_cons_succ])
      refine kb_row K13.out 3 rfl 42 _ _ (poA ⟨x.p0, x.p1, x.p2, x.p3, x.p4, x.p5, x.p6, x.p7, false, false, 4, 2, 1, (v.r : Nat), (v.c : Nat), (v.b : Nat), (v.p : Nat), 0, 0, 0, x.p20⟩) rfl rfl rfl rfl (size50) (by rfl) (po_all _) ?_
      intro w14 hk
      have K14 := Lib.hid (show Kb w [(b1, lqA y, 26), (b3, cfA ⟨0, 0, 0, n, 0, 0⟩, 38), (b6, poA ⟨x.p0, x.p1, x.p2, x.p3, x.p4, x.p5, x.p6, x.p7, false, false, 4, 2, 1, (v.r : Nat), (v.c : Nat), (v.b : Nat), (v.p : Nat), 0, 0, 0, x.p20⟩, 42), (b13, poA ⟨x.p0, x.p1, x.p2, x.p3, x.p4, x.p5, x.p6, x.p7, false, false, 4, 2, 1, (v.r : Nat), (v.c : Nat), (v.b : Nat), (v.p : Nat), 0, 0, 0, x.p20⟩, 42)] w14 from hk)
      clear hk
      (try simp only [Act.put, List.getElem_toArray, List.getElem_cons_succ, List.getElem_cons_zero, List.setIfInBounds_toArray, List.set_cons_zero, List.set_cons_succ])
      refine wpList_val (.bool false) (by rfl) (by go_simp) ?_
      (try simp only [Act.put, List.getElem_toArray, List.getElem_cons_succ, List.getElem_cons_zero, List.setIfInBounds_toArray, List.set_cons_zero, List.set_cons_succ])
      refine wpList_nil ?_
      go_upto_region 16 with fail
      refine wp_region_lit ?_
      refine wpList_val (.bool false) (by rfl) (by go_simp) ?_
      (try simp only [Act.put, List.getElem_toArray, List.getElem_cons_succ, List.getElem_cons_zero, List.setIfInBounds_toArray, List.set_cons_zero, List.set_cons_succ])
      refine wpList_val (.bool true) (by rfl) (by go_simp) ?_
      (try simp only [Act.put, List.getElem_toArray, List.getElem_cons_succ, List.getElem_cons_zero, List.setIfInBounds_toArray, List.set_cons_zero, List.set_cons_succ])
      refine wpList_val (.bool true) (by rfl) (by go_simp) ?_
      (try simp only [Act.put, List.getElem_toArray, List.getElem_cons_succ, List.getElem_cons_zero, List.setIfInBounds_toArray, List.set_cons_zero, List.set_cons_succ])
      refine wpList_val (.agg (poA ⟨x.p0, x.p1, x.p2, x.p3, x.p4, x.p5, x.p6, x.p7, false, false, 4, 2, 1, (v.r : Nat), (v.c : Nat), (v.b : Nat), (v.p : Nat), 0, 0, 0, x.p20⟩)) (by rfl) (kb_all K14.out 3 rfl 42 _ rfl rfl Try.underlying42 rfl (size50)) ?_
      (try simp only [Act.put, List.getElem_toArray, List.getElem_cons_succ, List.getElem_cons_zero, List.setIfInBounds_toArray, List.set_cons_zero, List.set_cons_succ])
      refine wpList_val (.agg (poA ⟨x.p0, x.p1, x.p2, x.p3, x.p4, x.p5, x.p6, x.p7, false, false, 4, 2, 1, (v.r : Nat), (v.c : Nat), (v.b : Nat), (v.p : Nat), 0, 0, 0, x.p20⟩)) (by rfl) (kb_all K14.out 2 rfl 42 _ rfl rfl Try.underlying42 rfl (size50)) ?_
      (try simp only [Act.put, List.getElem_toArray, List.getElem_cons_succ, List.getElem_cons_zero, List.setIfInBounds_toArray, List.set_cons_zero, List.set_cons_succ])
      refine wpList_val (.bool true) (by rfl) (by have q := eq_po2 (rfl : (⟨x.p0, x.p1, x.p2, x.p3, x.p4, x.p5, x.p6, x.p7, false, false, 4, 2, 1, (v.r : Nat), (v.c : Nat), (v.b : Nat), (v.p : Nat), 0, 0, 0, x.p20⟩ : Po) = ⟨x.p0, x.p1, x.p2, x.p3, x.p4, x.p5, x.p6, x.p7, false, false, 4, 2, 1, (v.r : Nat), (v.c : Nat), (v.b : Nat), (v.p : Nat), 0, 0, 0, x.p20⟩); go_simp) ?_
      (try simp only [Act.put, List.getElem_toArray, List.getElem_cons_succ, List.getElem_cons_zero, List.setIfInBounds_toArray, List.set_cons_zero, List.set_cons_succ])
      refine wpList_val (.bool true) (by rfl) (run_pick_yes (.tmp 78) (.tmp 81) (.const (.bool false)) _ rfl rfl rfl) ?_
      (try simp only [Act.put, List.getElem_toArray, List.getElem_cons_succ, List.getElem_cons_zero, List.setIfInBounds_toArray, List.set_cons_zero, List.set_cons_succ])
      refine wpList_val (.bool true) (by rfl) (by go_simp) ?_
      (try simp only [Act.put, List.getElem_toArray, List.getElem_cons_succ, List.getElem_cons_zero, List.setIfInBounds_toArray, List.set_cons_zero, List.set_cons_succ])
      refine wpList_nil ?_
      go_wp2_with fail
      go_ret
      exact ⟨ret_bool (rfl), K14.out.below⟩
end Go.Proofs.Yteeinlbhcdpnnaa
