/- designate. -/
import Derived.Test.YteeinlbhcdpnnaaSa1
namespace Go.Proofs.Yteeinlbhcdpnnaa
open Go.RowKit
attribute [local irreducible] wpQuiet wpList
set_option linter.unusedSimpArgs false
set_option linter.unusedVariables false

/-- The slots, while the region runs. -/
def DesA1 (x : Po) (u v : Vc) (c : Cf) (b1 b2 b3 b4 : Nat) (L : Nat → Bool) : Act := { tmps := #[.agg (poA ⟨x.p0, x.p1, x.p2, x.p3, x.p4, x.p5, x.p6, x.p7, x.p8, x.p9, x.p10, x.p11, x.p12, (u.r : Nat), (u.c : Nat), (u.b : Nat), (u.p : Nat), x.p17, x.p18, x.p19, x.p20⟩), .agg (vcA v), .agg (cfA c), .pointer (some ⟨b1, 0, none⟩), .pointer (some ⟨b2, 0, none⟩), .pointer (some ⟨b3, 0, none⟩), .pointer (some ⟨b4, 0, none⟩), .bool false, .bool true, .bool true, .pointer (some ⟨b1, 10, none⟩), .int .i64 x.p10, .bool true, .bool true, .bool true, undef, undef, undef, .bool true, .bool true, undef, undef, undef, undef, .bool true, .pointer (some ⟨b1, 10, none⟩), .bool true, bif L 0 then .agg (vcA v) else undef, bif L 1 then .pointer (some ⟨b1, 12, none⟩) else undef, bif L 3 then .pointer (some ⟨b1, 13, none⟩) else undef, bif L 5 then .pointer (some ⟨b1, 17, none⟩) else undef, bif L 7 then .pointer (some ⟨b1, 18, none⟩) else undef, bif L 9 then .pointer (some ⟨b1, 9, none⟩) else undef, undef, undef, undef, undef, undef, undef, undef, undef, undef, undef, undef], defers := [] }
/-- The slots, while the region runs. -/
def DesB1 (x : Po) (u v : Vc) (c : Cf) (b1 b2 b3 b4 : Nat) (L : Nat → Bool) : Act := { tmps := #[.agg (poA ⟨x.p0, x.p1, x.p2, x.p3, x.p4, x.p5, x.p6, x.p7, x.p8, x.p9, x.p10, x.p11, x.p12, (u.r : Nat), (u.c : Nat), (u.b : Nat), (u.p : Nat), x.p17, x.p18, x.p19, x.p20⟩), .agg (vcA v), .agg (cfA c), .pointer (some ⟨b1, 0, none⟩), .pointer (some ⟨b2, 0, none⟩), .pointer (some ⟨b3, 0, none⟩), .pointer (some ⟨b4, 0, none⟩), .bool false, .bool true, .bool true, .pointer (some ⟨b1, 10, none⟩), .int .i64 x.p10, .bool true, .bool true, .bool true, undef, undef, undef, .bool true, .bool true, undef, undef, undef, undef, .bool true, .pointer (some ⟨b1, 10, none⟩), .bool true, .agg (vcA v), .pointer (some ⟨b1, 12, none⟩), .pointer (some ⟨b1, 13, none⟩), .pointer (some ⟨b1, 17, none⟩), .pointer (some ⟨b1, 18, none⟩), .pointer (some ⟨b1, 9, none⟩), .bool true, bif L 0 then .pointer (some ⟨b3, 3, none⟩) else undef, bif L 1 then .int .i64 c.p3 else undef, bif L 2 then .pointer (some ⟨b1, 11, none⟩) else undef, bif L 4 then .pointer (some ⟨b1, 19, none⟩) else undef, undef, undef, undef, undef, undef, undef], defers := [] }
/-- The slots, while the region runs. -/
def DesA2 (x : Po) (u v : Vc) (c : Cf) (b1 b2 b3 b4 : Nat) (L : Nat → Bool) : Act := { tmps := #[.agg (poA ⟨x.p0, x.p1, x.p2, x.p3, x.p4, x.p5, x.p6, x.p7, x.p8, x.p9, x.p10, x.p11, x.p12, (u.r : Nat), (u.c : Nat), (u.b : Nat), (u.p : Nat), x.p17, x.p18, x.p19, x.p20⟩), .agg (vcA v), .agg (cfA c), .pointer (some ⟨b1, 0, none⟩), .pointer (some ⟨b2, 0, none⟩), .pointer (some ⟨b3, 0, none⟩), .pointer (some ⟨b4, 0, none⟩), .bool false, .bool true, .bool true, .pointer (some ⟨b1, 10, none⟩), .int .i64 x.p10, .bool true, .bool true, .bool true, undef, undef, undef, .bool true, .bool true, undef, undef, undef, undef, .bool true, .pointer (some ⟨b1, 10, none⟩), .bool true, bif L 0 then .agg (vcA v) else undef, bif L 1 then .pointer (some ⟨b1, 12, none⟩) else undef, bif L 3 then .pointer (some ⟨b1, 13, none⟩) else undef, bif L 5 then .pointer (some ⟨b1, 17, none⟩) else undef, bif L 7 then .pointer (some ⟨b1, 18, none⟩) else undef, bif L 9 then .pointer (some ⟨b1, 9, none⟩) else undef, undef, undef, undef, undef, undef, undef, undef, undef, undef, undef, undef], defers := [] }
/-- The slots, while the region runs. -/
def DesB2 (x : Po) (u v : Vc) (c : Cf) (b1 b2 b3 b4 : Nat) (L : Nat → Bool) : Act := { tmps := #[.agg (poA ⟨x.p0, x.p1, x.p2, x.p3, x.p4, x.p5, x.p6, x.p7, x.p8, x.p9, x.p10, x.p11, x.p12, (u.r : Nat), (u.c : Nat), (u.b : Nat), (u.p : Nat), x.p17, x.p18, x.p19, x.p20⟩), .agg (vcA v), .agg (cfA c), .pointer (some ⟨b1, 0, none⟩), .pointer (some ⟨b2, 0, none⟩), .pointer (some ⟨b3, 0, none⟩), .pointer (some ⟨b4, 0, none⟩), .bool false, .bool true, .bool true, .pointer (some ⟨b1, 10, none⟩), .int .i64 x.p10, .bool true, .bool true, .bool true, undef, undef, undef, .bool true, .bool true, undef, undef, undef, undef, .bool true, .pointer (some ⟨b1, 10, none⟩), .bool true, .agg (vcA v), .pointer (some ⟨b1, 12, none⟩), .pointer (some ⟨b1, 13, none⟩), .pointer (some ⟨b1, 17, none⟩), .pointer (some ⟨b1, 18, none⟩), .pointer (some ⟨b1, 9, none⟩), .bool true, bif L 0 then .pointer (some ⟨b3, 3, none⟩) else undef, bif L 1 then .int .i64 c.p3 else undef, bif L 2 then .pointer (some ⟨b1, 11, none⟩) else undef, bif L 4 then .pointer (some ⟨b1, 19, none⟩) else undef, undef, undef, undef, undef, undef, undef], defers := [] }
/-- The slots, while the region runs. -/
def DesA3 (x : Po) (u v : Vc) (c : Cf) (b1 b2 b3 b4 : Nat) (L : Nat → Bool) : Act := { tmps := #[.agg (poA ⟨x.p0, x.p1, x.p2, x.p3, x.p4, x.p5, x.p6, x.p7, x.p8, x.p9, x.p10, x.p11, x.p12, (u.r : Nat), (u.c : Nat), (u.b : Nat), (u.p : Nat), x.p17, x.p18, x.p19, x.p20⟩), .agg (vcA v), .agg (cfA c), .pointer (some ⟨b1, 0, none⟩), .pointer (some ⟨b2, 0, none⟩), .pointer (some ⟨b3, 0, none⟩), .pointer (some ⟨b4, 0, none⟩), .bool false, .bool false, .bool true, .pointer (some ⟨b1, 10, none⟩), .int .i64 x.p10, .bool false, .bool false, .bool false, .pointer (some ⟨b1, 12, none⟩), .int .i64 x.p12, .bool true, .bool true, .bool true, undef, undef, undef, undef, .bool true, .pointer (some ⟨b1, 10, none⟩), .bool true, bif L 0 then .agg (vcA v) else undef, bif L 1 then .pointer (some ⟨b1, 12, none⟩) else undef, bif L 3 then .pointer (some ⟨b1, 13, none⟩) else undef, bif L 5 then .pointer (some ⟨b1, 17, none⟩) else undef, bif L 7 then .pointer (some ⟨b1, 18, none⟩) else undef, bif L 9 then .pointer (some ⟨b1, 9, none⟩) else undef, undef, undef, undef, undef, undef, undef, undef, undef, undef, undef, undef], defers := [] }
/-- The slots, while the region runs. -/
def DesA4 (x : Po) (u v : Vc) (c : Cf) (b1 b2 b3 b4 : Nat) (L : Nat → Bool) : Act := { tmps := #[.agg (poA ⟨x.p0, x.p1, x.p2, x.p3, x.p4, x.p5, x.p6, x.p7, x.p8, x.p9, x.p10, x.p11, x.p12, (u.r : Nat), (u.c : Nat), (u.b : Nat), (u.p : Nat), x.p17, x.p18, x.p19, x.p20⟩), .agg (vcA v), .agg (cfA c), .pointer (some ⟨b1, 0, none⟩), .pointer (some ⟨b2, 0, none⟩), .pointer (some ⟨b3, 0, none⟩), .pointer (some ⟨b4, 0, none⟩), .bool false, .bool false, .bool true, .pointer (some ⟨b1, 10, none⟩), .int .i64 x.p10, .bool false, .bool false, .bool false, .pointer (some ⟨b1, 12, none⟩), .int .i64 x.p12, .bool true, .bool true, .bool true, undef, undef, undef, undef, .bool true, .pointer (some ⟨b1, 10, none⟩), .bool true, bif L 0 then .agg (vcA v) else undef, bif L 1 then .pointer (some ⟨b1, 12, none⟩) else undef, bif L 3 then .pointer (some ⟨b1, 13, none⟩) else undef, bif L 5 then .pointer (some ⟨b1, 17, none⟩) else undef, bif L 7 then .pointer (some ⟨b1, 18, none⟩) else undef, bif L 9 then .pointer (some ⟨b1, 9, none⟩) else undef, undef, undef, undef, undef, undef, undef, undef, undef, undef, undef, undef], defers := [] }
/-- The slots, while the region runs. -/
def DesA5 (x : Po) (u v : Vc) (c : Cf) (b1 b2 b3 b4 : Nat) (L : Nat → Bool) : Act := { tmps := #[.agg (poA ⟨x.p0, x.p1, x.p2, x.p3, x.p4, x.p5, x.p6, x.p7, x.p8, x.p9, x.p10, x.p11, x.p12, (u.r : Nat), (u.c : Nat), (u.b : Nat), (u.p : Nat), x.p17, x.p18, x.p19, x.p20⟩), .agg (vcA v), .agg (cfA c), .pointer (some ⟨b1, 0, none⟩), .pointer (some ⟨b2, 0, none⟩), .pointer (some ⟨b3, 0, none⟩), .pointer (some ⟨b4, 0, none⟩), .bool false, .bool false, .bool true, .pointer (some ⟨b1, 10, none⟩), .int .i64 x.p10, .bool false, .bool false, .bool false, .pointer (some ⟨b1, 12, none⟩), .int .i64 x.p12, .bool false, .bool false, .bool false, .pointer (some ⟨b1, 13, none⟩), .agg (#[.int .u64 (u.r : Nat), .int .u32 (u.c : Nat), .int .u64 (u.b : Nat), .int .u16 (u.p : Nat)]), .agg (vcA v), .bool true, .bool true, .pointer (some ⟨b1, 10, none⟩), .bool true, bif L 0 then .agg (vcA v) else undef, bif L 1 then .pointer (some ⟨b1, 12, none⟩) else undef, bif L 3 then .pointer (some ⟨b1, 13, none⟩) else undef, bif L 5 then .pointer (some ⟨b1, 17, none⟩) else undef, bif L 7 then .pointer (some ⟨b1, 18, none⟩) else undef, bif L 9 then .pointer (some ⟨b1, 9, none⟩) else undef, undef, undef, undef, undef, undef, undef, undef, undef, undef, undef, undef], defers := [] }
/-- The slots, while the region runs. -/
def DesA6 (x : Po) (u v : Vc) (c : Cf) (b1 b2 b3 b4 : Nat) (L : Nat → Bool) : Act := { tmps := #[.agg (poA ⟨x.p0, x.p1, x.p2, x.p3, x.p4, x.p5, x.p6, x.p7, x.p8, x.p9, x.p10, x.p11, x.p12, (u.r : Nat), (u.c : Nat), (u.b : Nat), (u.p : Nat), x.p17, x.p18, x.p19, x.p20⟩), .agg (vcA v), .agg (cfA c), .pointer (some ⟨b1, 0, none⟩), .pointer (some ⟨b2, 0, none⟩), .pointer (some ⟨b3, 0, none⟩), .pointer (some ⟨b4, 0, none⟩), .bool false, .bool false, .bool true, .pointer (some ⟨b1, 10, none⟩), .int .i64 x.p10, .bool false, .bool false, .bool false, .pointer (some ⟨b1, 12, none⟩), .int .i64 x.p12, .bool false, .bool false, .bool false, .pointer (some ⟨b1, 13, none⟩), .agg (#[.int .u64 (u.r : Nat), .int .u32 (u.c : Nat), .int .u64 (u.b : Nat), .int .u16 (u.p : Nat)]), .agg (vcA v), .bool true, .bool true, .pointer (some ⟨b1, 10, none⟩), .bool true, bif L 0 then .agg (vcA v) else undef, bif L 1 then .pointer (some ⟨b1, 12, none⟩) else undef, bif L 3 then .pointer (some ⟨b1, 13, none⟩) else undef, bif L 5 then .pointer (some ⟨b1, 17, none⟩) else undef, bif L 7 then .pointer (some ⟨b1, 18, none⟩) else undef, bif L 9 then .pointer (some ⟨b1, 9, none⟩) else undef, undef, undef, undef, undef, undef, undef, undef, undef, undef, undef, undef], defers := [] }
set_option maxRecDepth 100000 in
set_option maxHeartbeats 8000000 in
theorem designate_any (x : Po) (u v : Vc) (c : Cf) (w : World) : Calls Try.prog 15 #[poV (poU x u), vcV v, cfV c] w fun e w' => e = .returned (.tuple #[poV (desP x u v c.p3), .bool (desB x u v)]) ∧ Below w.heap.size w w' := by
  have CE := Lib.hid (fun w => equal_vc u v w)
  by_cases hr : x.p10 = 4
  case neg =>
    cases hed : edgeB x
    case false =>
      have hB : desB x u v = true := by simp [desB, hr]
      have hP : desP x u v c.p3 = ⟨x.p0, x.p1, x.p2, x.p3, x.p4, x.p5, x.p6, x.p7, x.p8, false, 4, 0, 1, (v.r : Nat), (v.c : Nat), (v.b : Nat), (v.p : Nat), 0, 0, c.p3, x.p20⟩ := by simp [desP, desV, hB, hed, hr]
      rw [hP, hB]
      unfold poU
      have HED := Lib.hid hed
      clear hP hB hed
      have K := Lib.hid (Kb.nil w)
      go_enter Try.func15, Try.ntmps15
      go_upto_region 0 with fail
      refine wp_region_lit ?_
      refine kb_box K.out 42 (.tmp 0) (poA ⟨x.p0, x.p1, x.p2, x.p3, x.p4, x.p5, x.p6, x.p7, x.p8, x.p9, x.p10, x.p11, x.p12, (u.r : Nat), (u.c : Nat), (u.b : Nat), (u.p : Nat), x.p17, x.p18, x.p19, x.p20⟩) rfl rfl (by rfl) ?_
      intro b1 w1 hb1 hk
      have K1 := Lib.hid (show Kb w [(b1, poA ⟨x.p0, x.p1, x.p2, x.p3, x.p4, x.p5, x.p6, x.p7, x.p8, x.p9, x.p10, x.p11, x.p12, (u.r : Nat), (u.c : Nat), (u.b : Nat), (u.p : Nat), x.p17, x.p18, x.p19, x.p20⟩, 42)] w1 from hk)
      clear hk hb1
      (try simp only [Act.put, gA, gS, gZ, sA, sZ, sS])
      refine kb_box K1.out 35 (.tmp 1) (vcA v) rfl rfl (by rfl) ?_
      intro b2 w2 hb2 hk
      have K2 := Lib.hid (show Kb w [(b1, poA ⟨x.p0, x.p1, x.p2, x.p3, x.p4, x.p5, x.p6, x.p7, x.p8, x.p9, x.p10, x.p11, x.p12, (u.r : Nat), (u.c : Nat), (u.b : Nat), (u.p : Nat), x.p17, x.p18, x.p19, x.p20⟩, 42), (b2, vcA v, 35)] w2 from hk)
      clear hk hb2
      (try simp only [Act.put, gA, gS, gZ, sA, sZ, sS])
      refine kb_box K2.out 38 (.tmp 2) (cfA c) rfl rfl (by rfl) ?_
      intro b3 w3 hb3 hk
      have K3 := Lib.hid (show Kb w [(b1, poA ⟨x.p0, x.p1, x.p2, x.p3, x.p4, x.p5, x.p6, x.p7, x.p8, x.p9, x.p10, x.p11, x.p12, (u.r : Nat), (u.c : Nat), (u.b : Nat), (u.p : Nat), x.p17, x.p18, x.p19, x.p20⟩, 42), (b2, vcA v, 35), (b3, cfA c, 38)] w3 from hk)
      clear hk hb3
      (try simp only [Act.put, gA, gS, gZ, sA, sZ, sS])
      refine kb_alloc K3.out 42 (nil21) rfl z50 (by rfl) ?_
      intro b4 w4 hb4 hk
      have K4 := Lib.hid (show Kb w [(b1, poA ⟨x.p0, x.p1, x.p2, x.p3, x.p4, x.p5, x.p6, x.p7, x.p8, x.p9, x.p10, x.p11, x.p12, (u.r : Nat), (u.c : Nat), (u.b : Nat), (u.p : Nat), x.p17, x.p18, x.p19, x.p20⟩, 42), (b2, vcA v, 35), (b3, cfA c, 38), (b4, nil21, 42)] w4 from hk)
      clear hk hb4
      (try simp only [Act.put, gA, gS, gZ, sA, sZ, sS])
      refine wv (.bool false) ?_
      (try simp only [Act.put, gA, gS, gZ, sA, sZ, sS])
      refine wpList_nil ?_
      go_upto_region 1 with fail
      refine wp_region_lit ?_
      refine wv (.pointer (some ⟨b1, 10, none⟩)) ?_
      (try simp only [Act.put, gA, gS, gZ, sA, sZ, sS])
      refine wv (.int .i64 x.p10) ?_ (hrun := by have q : w4.cell? ⟨b1, 10, none⟩ = some (.int .i64 x.p10) := K4.out.cell (i := 0) rfl (by rfl); go_simp)
      (try simp only [Act.put, gA, gS, gZ, sA, sZ, sS])
      refine wv (.bool true) ?_ (hrun := by have q := hr; go_simp)
      (try simp only [Act.put, gA, gS, gZ, sA, sZ, sS])
      refine wv (.bool true) ?_
      (try simp only [Act.put, gA, gS, gZ, sA, sZ, sS])
      refine wpList_nil ?_
      go_upto_region 2 with fail
      refine wp_region_lit ?_
      refine wv (.bool true) ?_
      (try simp only [Act.put, gA, gS, gZ, sA, sZ, sS])
      refine wv (.bool true) ?_
      (try simp only [Act.put, gA, gS, gZ, sA, sZ, sS])
      refine wpList_skip (by kernel_rfl) ?_
      (try simp only [Act.put, gA, gS, gZ, sA, sZ, sS])
      refine wpList_skip (by kernel_rfl) ?_
      (try simp only [Act.put, gA, gS, gZ, sA, sZ, sS])
      refine wpList_skip (by kernel_rfl) ?_
      (try simp only [Act.put, gA, gS, gZ, sA, sZ, sS])
      refine wv (.bool true) ?_ (hrun := run_pick_yes (.tmp 14) (.const (.bool true)) (.tmp 17) _ rfl rfl rfl)
      (try simp only [Act.put, gA, gS, gZ, sA, sZ, sS])
      refine wv (.bool true) ?_
      (try simp only [Act.put, gA, gS, gZ, sA, sZ, sS])
      refine wpList_skip (by kernel_rfl) ?_
      (try simp only [Act.put, gA, gS, gZ, sA, sZ, sS])
      refine wpList_skip (by kernel_rfl) ?_
      (try simp only [Act.put, gA, gS, gZ, sA, sZ, sS])
      refine wpList_skip (by kernel_rfl) ?_
      (try simp only [Act.put, gA, gS, gZ, sA, sZ, sS])
      refine wpList_skip (by kernel_rfl) ?_
      (try simp only [Act.put, gA, gS, gZ, sA, sZ, sS])
      refine wv (.bool true) ?_ (hrun := run_pick_yes (.tmp 19) (.const (.bool true)) (.tmp 23) _ rfl rfl rfl)
      (try simp only [Act.put, gA, gS, gZ, sA, sZ, sS])
      refine wv (.bool true) ?_
      (try simp only [Act.put, gA, gS, gZ, sA, sZ, sS])
      refine wpList_nil ?_
      go_upto_region 3 with fail
      refine wp_region_lit ?_
      refine wv (.pointer (some ⟨b1, 10, none⟩)) ?_
      (try simp only [Act.put, gA, gS, gZ, sA, sZ, sS])
      refine kb_set K4.out 0 rfl 3 _ _ 10 (.int .i64 4) rfl (by rfl) rfl rfl (kb_run_set K4.out (i := 0) rfl 3 10 (.int .i64 x.p10) (.int .i64 4) (by rfl) (fun W h1 h2 => by go_simp)) (poA ⟨x.p0, x.p1, x.p2, x.p3, x.p4, x.p5, x.p6, x.p7, x.p8, x.p9, 4, x.p11, x.p12, (u.r : Nat), (u.c : Nat), (u.b : Nat), (u.p : Nat), x.p17, x.p18, x.p19, x.p20⟩) (by kernel_rfl) ?_
      intro w5 hk
      have K5 := Lib.hid (show Kb w [(b1, poA ⟨x.p0, x.p1, x.p2, x.p3, x.p4, x.p5, x.p6, x.p7, x.p8, x.p9, 4, x.p11, x.p12, (u.r : Nat), (u.c : Nat), (u.b : Nat), (u.p : Nat), x.p17, x.p18, x.p19, x.p20⟩, 42), (b2, vcA v, 35), (b3, cfA c, 38), (b4, nil21, 42)] w5 from hk)
      clear hk
      (try simp only [Act.put, gA, gS, gZ, sA, sZ, sS])
      refine wpList_nil ?_
      go_upto_region 4 with fail
      refine wp_region_lit ?_
      refine wv (.bool true) ?_
      (try simp only [Act.put, gA, gS, gZ, sA, sZ, sS])
      refine wpList_nil ?_
      go_upto_region 5 with fail
      refine wp_region_inv (I := fun L ac w' => ac = DesA1 x u v c b1 b2 b3 b4 L ∧ Kb w [(b1, poA ⟨x.p0, x.p1, x.p2, x.p3, x.p4, x.p5, x.p6, x.p7, x.p8, (bif L 10 then false else x.p9), 4, x.p11, (bif L 2 then 1 else x.p12), (bif L 4 then (v.r : Nat) else (u.r : Nat)), (bif L 4 then (v.c : Nat) else (u.c : Nat)), (bif L 4 then (v.b : Nat) else (u.b : Nat)), (bif L 4 then (v.p : Nat) else (u.p : Nat)), (bif L 6 then 0 else x.p17), (bif L 8 then 0 else x.p18), x.p19, x.p20⟩, 42), (b2, vcA v, 35), (b3, cfA c, 38), (b4, nil21, 42)] w') (by kernel_rfl) (by kernel_rfl) ⟨by kernel_rfl, K5.out.drew⟩ ?_ ?_
      · intro i hi Lx ac w' hI hL haft
        obtain ⟨rfl, hw⟩ := hI
        match i, hi with
        | 0, _ =>
          have g4 : (DesA1 x u v c b1 b2 b3 b4 Lx).tmps[4]?.getD undef = .pointer (some ⟨b2, 0, none⟩) := by kernel_rfl
          have e4 : (DesA1 x u v c b1 b2 b3 b4 Lx).eval (.tmp 4) = .pointer (some ⟨b2, 0, none⟩) := by kernel_rfl
          exact i_val rfl (.agg (vcA v)) w' (by rfl) (kb_all hw 1 rfl 35 _ rfl e4 Try.underlying35 rfl (sizeV)) ⟨by kernel_rfl, hw⟩
        | 1, _ =>
          have g3 : (DesA1 x u v c b1 b2 b3 b4 Lx).tmps[3]?.getD undef = .pointer (some ⟨b1, 0, none⟩) := by kernel_rfl
          have e3 : (DesA1 x u v c b1 b2 b3 b4 Lx).eval (.tmp 3) = .pointer (some ⟨b1, 0, none⟩) := by kernel_rfl
          exact i_val rfl (.pointer (some ⟨b1, 12, none⟩)) w' (by rfl) (by go_simp) ⟨by kernel_rfl, hw⟩
        | 2, _ =>
          have h1 := haft 1 (by decide)
          have e28 : (DesA1 x u v c b1 b2 b3 b4 Lx).eval (.tmp 28) = .pointer (some ⟨b1, 12, none⟩) := by show (bif Lx 1 then _ else _) = _; rw [h1]; rfl
          have g28 : (DesA1 x u v c b1 b2 b3 b4 Lx).tmps[28]?.getD undef = .pointer (some ⟨b1, 12, none⟩) := by show (bif Lx 1 then _ else _) = _; rw [h1]; rfl
          exact i_wp rfl (by rfl) (wp_store_cell 3 _ _ rfl ⟨b1, 12, none⟩ (.int .i64 1) e28 rfl (kb_run_set hw (i := 0) rfl 3 12 (.int .i64 (bif Lx 2 then 1 else x.p12)) (.int .i64 1) (by rfl) (fun W h1 h2 => by go_simp)) ⟨by kernel_rfl, cast_blk (Kb.set (i := 0) hw rfl 12 (.int .i64 1)) (by rfl)⟩)
        | 3, _ =>
          have g3 : (DesA1 x u v c b1 b2 b3 b4 Lx).tmps[3]?.getD undef = .pointer (some ⟨b1, 0, none⟩) := by kernel_rfl
          have e3 : (DesA1 x u v c b1 b2 b3 b4 Lx).eval (.tmp 3) = .pointer (some ⟨b1, 0, none⟩) := by kernel_rfl
          exact i_val rfl (.pointer (some ⟨b1, 13, none⟩)) w' (by rfl) (by go_simp) ⟨by kernel_rfl, hw⟩
        | 4, _ =>
          have h0 := haft 0 (by decide)
          have e27 : (DesA1 x u v c b1 b2 b3 b4 Lx).eval (.tmp 27) = .agg (vcA v) := by show (bif Lx 0 then _ else _) = _; rw [h0]; rfl
          have g27 : (DesA1 x u v c b1 b2 b3 b4 Lx).tmps[27]?.getD undef = .agg (vcA v) := by show (bif Lx 0 then _ else _) = _; rw [h0]; rfl
          have h3 := haft 3 (by decide)
          have e29 : (DesA1 x u v c b1 b2 b3 b4 Lx).eval (.tmp 29) = .pointer (some ⟨b1, 13, none⟩) := by show (bif Lx 3 then _ else _) = _; rw [h3]; rfl
          have g29 : (DesA1 x u v c b1 b2 b3 b4 Lx).tmps[29]?.getD undef = .pointer (some ⟨b1, 13, none⟩) := by show (bif Lx 3 then _ else _) = _; rw [h3]; rfl
          exact i_wp rfl (by rfl) (wp_store_mid 35 _ _ rfl b1 13 (vcA v) e29 e27 ((Kb.at (i := 0) hw rfl).thereN 13 4 (Nat.le_of_ble_eq_true (by kernel_rfl))) (sizeV) (by kernel_rfl) ⟨by kernel_rfl, cast_blk (Kb.mid (i := 0) hw rfl 13 (vcA v).toList) (by rfl)⟩)
        | 5, _ =>
          have g3 : (DesA1 x u v c b1 b2 b3 b4 Lx).tmps[3]?.getD undef = .pointer (some ⟨b1, 0, none⟩) := by kernel_rfl
          have e3 : (DesA1 x u v c b1 b2 b3 b4 Lx).eval (.tmp 3) = .pointer (some ⟨b1, 0, none⟩) := by kernel_rfl
          exact i_val rfl (.pointer (some ⟨b1, 17, none⟩)) w' (by rfl) (by go_simp) ⟨by kernel_rfl, hw⟩
        | 6, _ =>
          have h5 := haft 5 (by decide)
          have e30 : (DesA1 x u v c b1 b2 b3 b4 Lx).eval (.tmp 30) = .pointer (some ⟨b1, 17, none⟩) := by show (bif Lx 5 then _ else _) = _; rw [h5]; rfl
          have g30 : (DesA1 x u v c b1 b2 b3 b4 Lx).tmps[30]?.getD undef = .pointer (some ⟨b1, 17, none⟩) := by show (bif Lx 5 then _ else _) = _; rw [h5]; rfl
          exact i_wp rfl (by rfl) (wp_store_cell 3 _ _ rfl ⟨b1, 17, none⟩ (.int .i64 0) e30 rfl (kb_run_set hw (i := 0) rfl 3 17 (.int .i64 (bif Lx 6 then 0 else x.p17)) (.int .i64 0) (by rfl) (fun W h1 h2 => by go_simp)) ⟨by kernel_rfl, cast_blk (Kb.set (i := 0) hw rfl 17 (.int .i64 0)) (by rfl)⟩)
        | 7, _ =>
          have g3 : (DesA1 x u v c b1 b2 b3 b4 Lx).tmps[3]?.getD undef = .pointer (some ⟨b1, 0, none⟩) := by kernel_rfl
          have e3 : (DesA1 x u v c b1 b2 b3 b4 Lx).eval (.tmp 3) = .pointer (some ⟨b1, 0, none⟩) := by kernel_rfl
          exact i_val rfl (.pointer (some ⟨b1, 18, none⟩)) w' (by rfl) (by go_simp) ⟨by kernel_rfl, hw⟩
        | 8, _ =>
          have h7 := haft 7 (by decide)
          have e31 : (DesA1 x u v c b1 b2 b3 b4 Lx).eval (.tmp 31) = .pointer (some ⟨b1, 18, none⟩) := by show (bif Lx 7 then _ else _) = _; rw [h7]; rfl
          have g31 : (DesA1 x u v c b1 b2 b3 b4 Lx).tmps[31]?.getD undef = .pointer (some ⟨b1, 18, none⟩) := by show (bif Lx 7 then _ else _) = _; rw [h7]; rfl
          exact i_wp rfl (by rfl) (wp_store_cell 3 _ _ rfl ⟨b1, 18, none⟩ (.int .i64 0) e31 rfl (kb_run_set hw (i := 0) rfl 3 18 (.int .i64 (bif Lx 8 then 0 else x.p18)) (.int .i64 0) (by rfl) (fun W h1 h2 => by go_simp)) ⟨by kernel_rfl, cast_blk (Kb.set (i := 0) hw rfl 18 (.int .i64 0)) (by rfl)⟩)
        | 9, _ =>
          have g3 : (DesA1 x u v c b1 b2 b3 b4 Lx).tmps[3]?.getD undef = .pointer (some ⟨b1, 0, none⟩) := by kernel_rfl
          have e3 : (DesA1 x u v c b1 b2 b3 b4 Lx).eval (.tmp 3) = .pointer (some ⟨b1, 0, none⟩) := by kernel_rfl
          exact i_val rfl (.pointer (some ⟨b1, 9, none⟩)) w' (by rfl) (by go_simp) ⟨by kernel_rfl, hw⟩
        | 10, _ =>
          have h9 := haft 9 (by decide)
          have e32 : (DesA1 x u v c b1 b2 b3 b4 Lx).eval (.tmp 32) = .pointer (some ⟨b1, 9, none⟩) := by show (bif Lx 9 then _ else _) = _; rw [h9]; rfl
          have g32 : (DesA1 x u v c b1 b2 b3 b4 Lx).tmps[32]?.getD undef = .pointer (some ⟨b1, 9, none⟩) := by show (bif Lx 9 then _ else _) = _; rw [h9]; rfl
          exact i_wp rfl (by rfl) (wp_store_cell 4 _ _ rfl ⟨b1, 9, none⟩ (.bool false) e32 rfl (kb_run_set hw (i := 0) rfl 4 9 (.bool (bif Lx 10 then false else x.p9)) (.bool false) (by rfl) (fun W h1 h2 => by go_simp)) ⟨by kernel_rfl, cast_blk (Kb.set (i := 0) hw rfl 9 (.bool false)) (by rfl)⟩)
        | k + 11, h =>
          exfalso
          have h2 : k + 11 < 11 := h
          omega
      intro Lx ac w6 hI hall
      obtain ⟨rfl, hw⟩ := hI
      have hfr : DesA1 x u v c b1 b2 b3 b4 Lx = { tmps := #[.agg (poA ⟨x.p0, x.p1, x.p2, x.p3, x.p4, x.p5, x.p6, x.p7, x.p8, x.p9, x.p10, x.p11, x.p12, (u.r : Nat), (u.c : Nat), (u.b : Nat), (u.p : Nat), x.p17, x.p18, x.p19, x.p20⟩), .agg (vcA v), .agg (cfA c), .pointer (some ⟨b1, 0, none⟩), .pointer (some ⟨b2, 0, none⟩), .pointer (some ⟨b3, 0, none⟩), .pointer (some ⟨b4, 0, none⟩), .bool false, .bool true, .bool true, .pointer (some ⟨b1, 10, none⟩), .int .i64 x.p10, .bool true, .bool true, .bool true, undef, undef, undef, .bool true, .bool true, undef, undef, undef, undef, .bool true, .pointer (some ⟨b1, 10, none⟩), .bool true, .agg (vcA v), .pointer (some ⟨b1, 12, none⟩), .pointer (some ⟨b1, 13, none⟩), .pointer (some ⟨b1, 17, none⟩), .pointer (some ⟨b1, 18, none⟩), .pointer (some ⟨b1, 9, none⟩), undef, undef, undef, undef, undef, undef, undef, undef, undef, undef, undef], defers := [] } := by unfold DesA1; simp only [hall 0 (by decide), hall 1 (by decide), hall 3 (by decide), hall 5 (by decide), hall 7 (by decide), hall 9 (by decide), cond_true]
      rw [hfr]
      clear hfr
      have hL2 := hall 2 (by decide)
      have hL4 := hall 4 (by decide)
      have hL6 := hall 6 (by decide)
      have hL8 := hall 8 (by decide)
      have hL10 := hall 10 (by decide)
      simp only [hL2, hL4, hL6, hL8, hL10, cond_true] at hw
      have K6 := Lib.hid (show Kb w [(b1, poA ⟨x.p0, x.p1, x.p2, x.p3, x.p4, x.p5, x.p6, x.p7, x.p8, false, 4, x.p11, 1, (v.r : Nat), (v.c : Nat), (v.b : Nat), (v.p : Nat), 0, 0, x.p19, x.p20⟩, 42), (b2, vcA v, 35), (b3, cfA c, 38), (b4, nil21, 42)] w6 from hw)
      clear hw hall hL2 hL4 hL6 hL8 hL10
      go_upto_region 6 with fail
      refine wp_region_lit ?_
      refine wv (.bool true) ?_
      (try simp only [Act.put, gA, gS, gZ, sA, sZ, sS])
      refine wpList_nil ?_
      go_upto_region 7 with fail
      refine wp_region_inv (I := fun L ac w' => ac = DesB1 x u v c b1 b2 b3 b4 L ∧ Kb w [(b1, poA ⟨x.p0, x.p1, x.p2, x.p3, x.p4, x.p5, x.p6, x.p7, x.p8, false, 4, (bif L 3 then 0 else x.p11), 1, (v.r : Nat), (v.c : Nat), (v.b : Nat), (v.p : Nat), 0, 0, (bif L 5 then c.p3 else x.p19), x.p20⟩, 42), (b2, vcA v, 35), (b3, cfA c, 38), (b4, nil21, 42)] w') (by kernel_rfl) (by kernel_rfl) ⟨by kernel_rfl, K6.out.drew⟩ ?_ ?_
      · intro i hi Lx ac w' hI hL haft
        obtain ⟨rfl, hw⟩ := hI
        match i, hi with
        | 0, _ =>
          have g5 : (DesB1 x u v c b1 b2 b3 b4 Lx).tmps[5]?.getD undef = .pointer (some ⟨b3, 0, none⟩) := by kernel_rfl
          have e5 : (DesB1 x u v c b1 b2 b3 b4 Lx).eval (.tmp 5) = .pointer (some ⟨b3, 0, none⟩) := by kernel_rfl
          exact i_val rfl (.pointer (some ⟨b3, 3, none⟩)) w' (by rfl) (by go_simp) ⟨by kernel_rfl, hw⟩
        | 1, _ =>
          have h0 := haft 0 (by decide)
          have e34 : (DesB1 x u v c b1 b2 b3 b4 Lx).eval (.tmp 34) = .pointer (some ⟨b3, 3, none⟩) := by show (bif Lx 0 then _ else _) = _; rw [h0]; rfl
          have g34 : (DesB1 x u v c b1 b2 b3 b4 Lx).tmps[34]?.getD undef = .pointer (some ⟨b3, 3, none⟩) := by show (bif Lx 0 then _ else _) = _; rw [h0]; rfl
          exact i_val rfl (.int .i64 c.p3) w' (by rfl) (by have q : w'.cell? ⟨b3, 3, none⟩ = some (.int .i64 c.p3) := Kb.cell (i := 2) hw rfl (by rfl); go_simp) ⟨by kernel_rfl, hw⟩
        | 2, _ =>
          have g3 : (DesB1 x u v c b1 b2 b3 b4 Lx).tmps[3]?.getD undef = .pointer (some ⟨b1, 0, none⟩) := by kernel_rfl
          have e3 : (DesB1 x u v c b1 b2 b3 b4 Lx).eval (.tmp 3) = .pointer (some ⟨b1, 0, none⟩) := by kernel_rfl
          exact i_val rfl (.pointer (some ⟨b1, 11, none⟩)) w' (by rfl) (by go_simp) ⟨by kernel_rfl, hw⟩
        | 3, _ =>
          have h2 := haft 2 (by decide)
          have e36 : (DesB1 x u v c b1 b2 b3 b4 Lx).eval (.tmp 36) = .pointer (some ⟨b1, 11, none⟩) := by show (bif Lx 2 then _ else _) = _; rw [h2]; rfl
          have g36 : (DesB1 x u v c b1 b2 b3 b4 Lx).tmps[36]?.getD undef = .pointer (some ⟨b1, 11, none⟩) := by show (bif Lx 2 then _ else _) = _; rw [h2]; rfl
          exact i_wp rfl (by rfl) (wp_store_cell 3 _ _ rfl ⟨b1, 11, none⟩ (.int .i64 0) e36 rfl (kb_run_set hw (i := 0) rfl 3 11 (.int .i64 (bif Lx 3 then 0 else x.p11)) (.int .i64 0) (by rfl) (fun W h1 h2 => by go_simp)) ⟨by kernel_rfl, cast_blk (Kb.set (i := 0) hw rfl 11 (.int .i64 0)) (by rfl)⟩)
        | 4, _ =>
          have g3 : (DesB1 x u v c b1 b2 b3 b4 Lx).tmps[3]?.getD undef = .pointer (some ⟨b1, 0, none⟩) := by kernel_rfl
          have e3 : (DesB1 x u v c b1 b2 b3 b4 Lx).eval (.tmp 3) = .pointer (some ⟨b1, 0, none⟩) := by kernel_rfl
          exact i_val rfl (.pointer (some ⟨b1, 19, none⟩)) w' (by rfl) (by go_simp) ⟨by kernel_rfl, hw⟩
        | 5, _ =>
          have h1 := haft 1 (by decide)
          have e35 : (DesB1 x u v c b1 b2 b3 b4 Lx).eval (.tmp 35) = .int .i64 c.p3 := by show (bif Lx 1 then _ else _) = _; rw [h1]; rfl
          have g35 : (DesB1 x u v c b1 b2 b3 b4 Lx).tmps[35]?.getD undef = .int .i64 c.p3 := by show (bif Lx 1 then _ else _) = _; rw [h1]; rfl
          have h4 := haft 4 (by decide)
          have e37 : (DesB1 x u v c b1 b2 b3 b4 Lx).eval (.tmp 37) = .pointer (some ⟨b1, 19, none⟩) := by show (bif Lx 4 then _ else _) = _; rw [h4]; rfl
          have g37 : (DesB1 x u v c b1 b2 b3 b4 Lx).tmps[37]?.getD undef = .pointer (some ⟨b1, 19, none⟩) := by show (bif Lx 4 then _ else _) = _; rw [h4]; rfl
          exact i_wp rfl (by rfl) (wp_store_cell 3 _ _ rfl ⟨b1, 19, none⟩ (.int .i64 c.p3) e37 e35 (kb_run_set hw (i := 0) rfl 3 19 (.int .i64 (bif Lx 5 then c.p3 else x.p19)) (.int .i64 c.p3) (by rfl) (fun W h1 h2 => by go_simp)) ⟨by kernel_rfl, cast_blk (Kb.set (i := 0) hw rfl 19 (.int .i64 c.p3)) (by rfl)⟩)
        | k + 6, h =>
          exfalso
          have h2 : k + 6 < 6 := h
          omega
      intro Lx ac w7 hI hall
      obtain ⟨rfl, hw⟩ := hI
      have hfr : DesB1 x u v c b1 b2 b3 b4 Lx = { tmps := #[.agg (poA ⟨x.p0, x.p1, x.p2, x.p3, x.p4, x.p5, x.p6, x.p7, x.p8, x.p9, x.p10, x.p11, x.p12, (u.r : Nat), (u.c : Nat), (u.b : Nat), (u.p : Nat), x.p17, x.p18, x.p19, x.p20⟩), .agg (vcA v), .agg (cfA c), .pointer (some ⟨b1, 0, none⟩), .pointer (some ⟨b2, 0, none⟩), .pointer (some ⟨b3, 0, none⟩), .pointer (some ⟨b4, 0, none⟩), .bool false, .bool true, .bool true, .pointer (some ⟨b1, 10, none⟩), .int .i64 x.p10, .bool true, .bool true, .bool true, undef, undef, undef, .bool true, .bool true, undef, undef, undef, undef, .bool true, .pointer (some ⟨b1, 10, none⟩), .bool true, .agg (vcA v), .pointer (some ⟨b1, 12, none⟩), .pointer (some ⟨b1, 13, none⟩), .pointer (some ⟨b1, 17, none⟩), .pointer (some ⟨b1, 18, none⟩), .pointer (some ⟨b1, 9, none⟩), .bool true, .pointer (some ⟨b3, 3, none⟩), .int .i64 c.p3, .pointer (some ⟨b1, 11, none⟩), .pointer (some ⟨b1, 19, none⟩), undef, undef, undef, undef, undef, undef], defers := [] } := by unfold DesB1; simp only [hall 0 (by decide), hall 1 (by decide), hall 2 (by decide), hall 4 (by decide), cond_true]
      rw [hfr]
      clear hfr
      have hL3 := hall 3 (by decide)
      have hL5 := hall 5 (by decide)
      simp only [hL3, hL5, cond_true] at hw
      have K7 := Lib.hid (show Kb w [(b1, poA ⟨x.p0, x.p1, x.p2, x.p3, x.p4, x.p5, x.p6, x.p7, x.p8, false, 4, 0, 1, (v.r : Nat), (v.c : Nat), (v.b : Nat), (v.p : Nat), 0, 0, c.p3, x.p20⟩, 42), (b2, vcA v, 35), (b3, cfA c, 38), (b4, nil21, 42)] w7 from hw)
      clear hw hall hL3 hL5
      go_upto_region 8 with fail
      refine wp_region_lit ?_
      refine wv (.agg (poA ⟨x.p0, x.p1, x.p2, x.p3, x.p4, x.p5, x.p6, x.p7, x.p8, false, 4, 0, 1, (v.r : Nat), (v.c : Nat), (v.b : Nat), (v.p : Nat), 0, 0, c.p3, x.p20⟩)) ?_ (hrun := kb_all K7.out 0 rfl 42 _ rfl rfl Try.underlying42 rfl (size50))
      (try simp only [Act.put, gA, gS, gZ, sA, sZ, sS])
      refine kb_call K7.out 13 #[.agg (poA ⟨x.p0, x.p1, x.p2, x.p3, x.p4, x.p5, x.p6, x.p7, x.p8, false, 4, 0, 1, (v.r : Nat), (v.c : Nat), (v.b : Nat), (v.p : Nat), 0, 0, c.p3, x.p20⟩)] (.bool false) (by rfl) (by go_simp) (edge_is ⟨x.p0, x.p1, x.p2, x.p3, x.p4, x.p5, x.p6, x.p7, x.p8, false, 4, 0, 1, (v.r : Nat), (v.c : Nat), (v.b : Nat), (v.p : Nat), 0, 0, c.p3, x.p20⟩ false HED.out w7) ?_
      intro w8 hk
      have K8 := Lib.hid (show Kb w [(b1, poA ⟨x.p0, x.p1, x.p2, x.p3, x.p4, x.p5, x.p6, x.p7, x.p8, false, 4, 0, 1, (v.r : Nat), (v.c : Nat), (v.b : Nat), (v.p : Nat), 0, 0, c.p3, x.p20⟩, 42), (b2, vcA v, 35), (b3, cfA c, 38), (b4, nil21, 42)] w8 from hk)
      clear hk
      (try simp only [Act.put, gA, gS, gZ, sA, sZ, sS])
      refine wpList_nil ?_
      go_upto_region 10 with fail
      refine wp_region_lit ?_
      refine wv (.agg (poA ⟨x.p0, x.p1, x.p2, x.p3, x.p4, x.p5, x.p6, x.p7, x.p8, false, 4, 0, 1, (v.r : Nat), (v.c : Nat), (v.b : Nat), (v.p : Nat), 0, 0, c.p3, x.p20⟩)) ?_ (hrun := kb_all K8.out 0 rfl 42 _ rfl rfl Try.underlying42 rfl (size50))
      (try simp only [Act.put, gA, gS, gZ, sA, sZ, sS])
      refine wv (.bool true) ?_
      (try simp only [Act.put, gA, gS, gZ, sA, sZ, sS])
      refine kb_row K8.out 3 rfl 42 _ _ (poA ⟨x.p0, x.p1, x.p2, x.p3, x.p4, x.p5, x.p6, x.p7, x.p8, false, 4, 0, 1, (v.r : Nat), (v.c : Nat), (v.b : Nat), (v.p : Nat), 0, 0, c.p3, x.p20⟩) rfl rfl rfl rfl (size50) (by rfl) (po_all _) ?_
      intro w9 hk
      have K9 := Lib.hid (show Kb w [(b1, poA ⟨x.p0, x.p1, x.p2, x.p3, x.p4, x.p5, x.p6, x.p7, x.p8, false, 4, 0, 1, (v.r : Nat), (v.c : Nat), (v.b : Nat), (v.p : Nat), 0, 0, c.p3, x.p20⟩, 42), (b2, vcA v, 35), (b3, cfA c, 38), (b4, poA ⟨x.p0, x.p1, x.p2, x.p3, x.p4, x.p5, x.p6, x.p7, x.p8, false, 4, 0, 1, (v.r : Nat), (v.c : Nat), (v.b : Nat), (v.p : Nat), 0, 0, c.p3, x.p20⟩, 42)] w9 from hk)
      clear hk
      (try simp only [Act.put, gA, gS, gZ, sA, sZ, sS])
      refine wv (.bool true) ?_
      (try simp only [Act.put, gA, gS, gZ, sA, sZ, sS])
      refine wpList_nil ?_
      go_wp2_with fail
      refine bodyPost_ret (v := .tuple #[.agg (poA ⟨x.p0, x.p1, x.p2, x.p3, x.p4, x.p5, x.p6, x.p7, x.p8, false, 4, 0, 1, (v.r : Nat), (v.c : Nat), (v.b : Nat), (v.p : Nat), 0, 0, c.p3, x.p20⟩), .bool true]) (results_row_tmp Try.results15 _ _ b4 42 (poA ⟨x.p0, x.p1, x.p2, x.p3, x.p4, x.p5, x.p6, x.p7, x.p8, false, 4, 0, 1, (v.r : Nat), (v.c : Nat), (v.b : Nat), (v.p : Nat), 0, 0, c.p3, x.p20⟩) (.bool true) _ rfl rfl (K9.out.at (i := 3) rfl) Try.underlying42 rfl (po_info _)) rfl ?_
      exact ⟨rfl, K9.out.below⟩
    case true =>
      have hB : desB x u v = true := by simp [desB, hr]
      have hP : desP x u v c.p3 = ⟨x.p0, x.p1, x.p2, x.p3, x.p4, x.p5, x.p6, x.p7, x.p8, false, 4, 2, 1, (v.r : Nat), (v.c : Nat), (v.b : Nat), (v.p : Nat), 0, 0, 0, x.p20⟩ := by simp [desP, desV, hB, hed, hr]
      rw [hP, hB]
      unfold poU
      have HED := Lib.hid hed
      clear hP hB hed
      have K := Lib.hid (Kb.nil w)
      go_enter Try.func15, Try.ntmps15
      go_upto_region 0 with fail
      refine wp_region_lit ?_
      refine kb_box K.out 42 (.tmp 0) (poA ⟨x.p0, x.p1, x.p2, x.p3, x.p4, x.p5, x.p6, x.p7, x.p8, x.p9, x.p10, x.p11, x.p12, (u.r : Nat), (u.c : Nat), (u.b : Nat), (u.p : Nat), x.p17, x.p18, x.p19, x.p20⟩) rfl rfl (by rfl) ?_
      intro b1 w1 hb1 hk
      have K1 := Lib.hid (show Kb w [(b1, poA ⟨x.p0, x.p1, x.p2, x.p3, x.p4, x.p5, x.p6, x.p7, x.p8, x.p9, x.p10, x.p11, x.p12, (u.r : Nat), (u.c : Nat), (u.b : Nat), (u.p : Nat), x.p17, x.p18, x.p19, x.p20⟩, 42)] w1 from hk)
      clear hk hb1
      (try simp only [Act.put, gA, gS, gZ, sA, sZ, sS])
      refine kb_box K1.out 35 (.tmp 1) (vcA v) rfl rfl (by rfl) ?_
      intro b2 w2 hb2 hk
      have K2 := Lib.hid (show Kb w [(b1, poA ⟨x.p0, x.p1, x.p2, x.p3, x.p4, x.p5, x.p6, x.p7, x.p8, x.p9, x.p10, x.p11, x.p12, (u.r : Nat), (u.c : Nat), (u.b : Nat), (u.p : Nat), x.p17, x.p18, x.p19, x.p20⟩, 42), (b2, vcA v, 35)] w2 from hk)
      clear hk hb2
      (try simp only [Act.put, gA, gS, gZ, sA, sZ, sS])
      refine kb_box K2.out 38 (.tmp 2) (cfA c) rfl rfl (by rfl) ?_
      intro b3 w3 hb3 hk
      have K3 := Lib.hid (show Kb w [(b1, poA ⟨x.p0, x.p1, x.p2, x.p3, x.p4, x.p5, x.p6, x.p7, x.p8, x.p9, x.p10, x.p11, x.p12, (u.r : Nat), (u.c : Nat), (u.b : Nat), (u.p : Nat), x.p17, x.p18, x.p19, x.p20⟩, 42), (b2, vcA v, 35), (b3, cfA c, 38)] w3 from hk)
      clear hk hb3
      (try simp only [Act.put, gA, gS, gZ, sA, sZ, sS])
      refine kb_alloc K3.out 42 (nil21) rfl z50 (by rfl) ?_
      intro b4 w4 hb4 hk
      have K4 := Lib.hid (show Kb w [(b1, poA ⟨x.p0, x.p1, x.p2, x.p3, x.p4, x.p5, x.p6, x.p7, x.p8, x.p9, x.p10, x.p11, x.p12, (u.r : Nat), (u.c : Nat), (u.b : Nat), (u.p : Nat), x.p17, x.p18, x.p19, x.p20⟩, 42), (b2, vcA v, 35), (b3, cfA c, 38), (b4, nil21, 42)] w4 from hk)
      clear hk hb4
      (try simp only [Act.put, gA, gS, gZ, sA, sZ, sS])
      refine wv (.bool false) ?_
      (try simp only [Act.put, gA, gS, gZ, sA, sZ, sS])
      refine wpList_nil ?_
      go_upto_region 1 with fail
      refine wp_region_lit ?_
      refine wv (.pointer (some ⟨b1, 10, none⟩)) ?_
      (try simp only [Act.put, gA, gS, gZ, sA, sZ, sS])
      refine wv (.int .i64 x.p10) ?_ (hrun := by have q : w4.cell? ⟨b1, 10, none⟩ = some (.int .i64 x.p10) := K4.out.cell (i := 0) rfl (by rfl); go_simp)
      (try simp only [Act.put, gA, gS, gZ, sA, sZ, sS])
      refine wv (.bool true) ?_ (hrun := by have q := hr; go_simp)
      (try simp only [Act.put, gA, gS, gZ, sA, sZ, sS])
      refine wv (.bool true) ?_
      (try simp only [Act.put, gA, gS, gZ, sA, sZ, sS])
      refine wpList_nil ?_
      go_upto_region 2 with fail
      refine wp_region_lit ?_
      refine wv (.bool true) ?_
      (try simp only [Act.put, gA, gS, gZ, sA, sZ, sS])
      refine wv (.bool true) ?_
      (try simp only [Act.put, gA, gS, gZ, sA, sZ, sS])
      refine wpList_skip (by kernel_rfl) ?_
      (try simp only [Act.put, gA, gS, gZ, sA, sZ, sS])
      refine wpList_skip (by kernel_rfl) ?_
      (try simp only [Act.put, gA, gS, gZ, sA, sZ, sS])
      refine wpList_skip (by kernel_rfl) ?_
      (try simp only [Act.put, gA, gS, gZ, sA, sZ, sS])
      refine wv (.bool true) ?_ (hrun := run_pick_yes (.tmp 14) (.const (.bool true)) (.tmp 17) _ rfl rfl rfl)
      (try simp only [Act.put, gA, gS, gZ, sA, sZ, sS])
      refine wv (.bool true) ?_
      (try simp only [Act.put, gA, gS, gZ, sA, sZ, sS])
      refine wpList_skip (by kernel_rfl) ?_
      (try simp only [Act.put, gA, gS, gZ, sA, sZ, sS])
      refine wpList_skip (by kernel_rfl) ?_
      (try simp only [Act.put, gA, gS, gZ, sA, sZ, sS])
      refine wpList_skip (by kernel_rfl) ?_
      (try simp only [Act.put, gA, gS, gZ, sA, sZ, sS])
      refine wpList_skip (by kernel_rfl) ?_
      (try simp only [Act.put, gA, gS, gZ, sA, sZ, sS])
      refine wv (.bool true) ?_ (hrun := run_pick_yes (.tmp 19) (.const (.bool true)) (.tmp 23) _ rfl rfl rfl)
      (try simp only [Act.put, gA, gS, gZ, sA, sZ, sS])
      refine wv (.bool true) ?_
      (try simp only [Act.put, gA, gS, gZ, sA, sZ, sS])
      refine wpList_nil ?_
      go_upto_region 3 with fail
      refine wp_region_lit ?_
      refine wv (.pointer (some ⟨b1, 10, none⟩)) ?_
      (try simp only [Act.put, gA, gS, gZ, sA, sZ, sS])
      refine kb_set K4.out 0 rfl 3 _ _ 10 (.int .i64 4) rfl (by rfl) rfl rfl (kb_run_set K4.out (i := 0) rfl 3 10 (.int .i64 x.p10) (.int .i64 4) (by rfl) (fun W h1 h2 => by go_simp)) (poA ⟨x.p0, x.p1, x.p2, x.p3, x.p4, x.p5, x.p6, x.p7, x.p8, x.p9, 4, x.p11, x.p12, (u.r : Nat), (u.c : Nat), (u.b : Nat), (u.p : Nat), x.p17, x.p18, x.p19, x.p20⟩) (by kernel_rfl) ?_
      intro w5 hk
      have K5 := Lib.hid (show Kb w [(b1, poA ⟨x.p0, x.p1, x.p2, x.p3, x.p4, x.p5, x.p6, x.p7, x.p8, x.p9, 4, x.p11, x.p12, (u.r : Nat), (u.c : Nat), (u.b : Nat), (u.p : Nat), x.p17, x.p18, x.p19, x.p20⟩, 42), (b2, vcA v, 35), (b3, cfA c, 38), (b4, nil21, 42)] w5 from hk)
      clear hk
      (try simp only [Act.put, gA, gS, gZ, sA, sZ, sS])
      refine wpList_nil ?_
      go_upto_region 4 with fail
      refine wp_region_lit ?_
      refine wv (.bool true) ?_
      (try simp only [Act.put, gA, gS, gZ, sA, sZ, sS])
      refine wpList_nil ?_
      go_upto_region 5 with fail
      refine wp_region_inv (I := fun L ac w' => ac = DesA2 x u v c b1 b2 b3 b4 L ∧ Kb w [(b1, poA ⟨x.p0, x.p1, x.p2, x.p3, x.p4, x.p5, x.p6, x.p7, x.p8, (bif L 10 then false else x.p9), 4, x.p11, (bif L 2 then 1 else x.p12), (bif L 4 then (v.r : Nat) else (u.r : Nat)), (bif L 4 then (v.c : Nat) else (u.c : Nat)), (bif L 4 then (v.b : Nat) else (u.b : Nat)), (bif L 4 then (v.p : Nat) else (u.p : Nat)), (bif L 6 then 0 else x.p17), (bif L 8 then 0 else x.p18), x.p19, x.p20⟩, 42), (b2, vcA v, 35), (b3, cfA c, 38), (b4, nil21, 42)] w') (by kernel_rfl) (by kernel_rfl) ⟨by kernel_rfl, K5.out.drew⟩ ?_ ?_
      · intro i hi Lx ac w' hI hL haft
        obtain ⟨rfl, hw⟩ := hI
        match i, hi with
        | 0, _ =>
          have g4 : (DesA2 x u v c b1 b2 b3 b4 Lx).tmps[4]?.getD undef = .pointer (some ⟨b2, 0, none⟩) := by kernel_rfl
          have e4 : (DesA2 x u v c b1 b2 b3 b4 Lx).eval (.tmp 4) = .pointer (some ⟨b2, 0, none⟩) := by kernel_rfl
          exact i_val rfl (.agg (vcA v)) w' (by rfl) (kb_all hw 1 rfl 35 _ rfl e4 Try.underlying35 rfl (sizeV)) ⟨by kernel_rfl, hw⟩
        | 1, _ =>
          have g3 : (DesA2 x u v c b1 b2 b3 b4 Lx).tmps[3]?.getD undef = .pointer (some ⟨b1, 0, none⟩) := by kernel_rfl
          have e3 : (DesA2 x u v c b1 b2 b3 b4 Lx).eval (.tmp 3) = .pointer (some ⟨b1, 0, none⟩) := by kernel_rfl
          exact i_val rfl (.pointer (some ⟨b1, 12, none⟩)) w' (by rfl) (by go_simp) ⟨by kernel_rfl, hw⟩
        | 2, _ =>
          have h1 := haft 1 (by decide)
          have e28 : (DesA2 x u v c b1 b2 b3 b4 Lx).eval (.tmp 28) = .pointer (some ⟨b1, 12, none⟩) := by show (bif Lx 1 then _ else _) = _; rw [h1]; rfl
          have g28 : (DesA2 x u v c b1 b2 b3 b4 Lx).tmps[28]?.getD undef = .pointer (some ⟨b1, 12, none⟩) := by show (bif Lx 1 then _ else _) = _; rw [h1]; rfl
          exact i_wp rfl (by rfl) (wp_store_cell 3 _ _ rfl ⟨b1, 12, none⟩ (.int .i64 1) e28 rfl (kb_run_set hw (i := 0) rfl 3 12 (.int .i64 (bif Lx 2 then 1 else x.p12)) (.int .i64 1) (by rfl) (fun W h1 h2 => by go_simp)) ⟨by kernel_rfl, cast_blk (Kb.set (i := 0) hw rfl 12 (.int .i64 1)) (by rfl)⟩)
        | 3, _ =>
          have g3 : (DesA2 x u v c b1 b2 b3 b4 Lx).tmps[3]?.getD undef = .pointer (some ⟨b1, 0, none⟩) := by kernel_rfl
          have e3 : (DesA2 x u v c b1 b2 b3 b4 Lx).eval (.tmp 3) = .pointer (some ⟨b1, 0, none⟩) := by kernel_rfl
          exact i_val rfl (.pointer (some ⟨b1, 13, none⟩)) w' (by rfl) (by go_simp) ⟨by kernel_rfl, hw⟩
        | 4, _ =>
          have h0 := haft 0 (by decide)
          have e27 : (DesA2 x u v c b1 b2 b3 b4 Lx).eval (.tmp 27) = .agg (vcA v) := by show (bif Lx 0 then _ else _) = _; rw [h0]; rfl
          have g27 : (DesA2 x u v c b1 b2 b3 b4 Lx).tmps[27]?.getD undef = .agg (vcA v) := by show (bif Lx 0 then _ else _) = _; rw [h0]; rfl
          have h3 := haft 3 (by decide)
          have e29 : (DesA2 x u v c b1 b2 b3 b4 Lx).eval (.tmp 29) = .pointer (some ⟨b1, 13, none⟩) := by show (bif Lx 3 then _ else _) = _; rw [h3]; rfl
          have g29 : (DesA2 x u v c b1 b2 b3 b4 Lx).tmps[29]?.getD undef = .pointer (some ⟨b1, 13, none⟩) := by show (bif Lx 3 then _ else _) = _; rw [h3]; rfl
          exact i_wp rfl (by rfl) (wp_store_mid 35 _ _ rfl b1 13 (vcA v) e29 e27 ((Kb.at (i := 0) hw rfl).thereN 13 4 (Nat.le_of_ble_eq_true (by kernel_rfl))) (sizeV) (by kernel_rfl) ⟨by kernel_rfl, cast_blk (Kb.mid (i := 0) hw rfl 13 (vcA v).toList) (by rfl)⟩)
        | 5, _ =>
          have g3 : (DesA2 x u v c b1 b2 b3 b4 Lx).tmps[3]?.getD undef = .pointer (some ⟨b1, 0, none⟩) := by kernel_rfl
          have e3 : (DesA2 x u v c b1 b2 b3 b4 Lx).eval (.tmp 3) = .pointer (some ⟨b1, 0, none⟩) := by kernel_rfl
          exact i_val rfl (.pointer (some ⟨b1, 17, none⟩)) w' (by rfl) (by go_simp) ⟨by kernel_rfl, hw⟩
        | 6, _ =>
          have h5 := haft 5 (by decide)
          have e30 : (DesA2 x u v c b1 b2 b3 b4 Lx).eval (.tmp 30) = .pointer (some ⟨b1, 17, none⟩) := by show (bif Lx 5 then _ else _) = _; rw [h5]; rfl
          have g30 : (DesA2 x u v c b1 b2 b3 b4 Lx).tmps[30]?.getD undef = .pointer (some ⟨b1, 17, none⟩) := by show (bif Lx 5 then _ else _) = _; rw [h5]; rfl
          exact i_wp rfl (by rfl) (wp_store_cell 3 _ _ rfl ⟨b1, 17, none⟩ (.int .i64 0) e30 rfl (kb_run_set hw (i := 0) rfl 3 17 (.int .i64 (bif Lx 6 then 0 else x.p17)) (.int .i64 0) (by rfl) (fun W h1 h2 => by go_simp)) ⟨by kernel_rfl, cast_blk (Kb.set (i := 0) hw rfl 17 (.int .i64 0)) (by rfl)⟩)
        | 7, _ =>
          have g3 : (DesA2 x u v c b1 b2 b3 b4 Lx).tmps[3]?.getD undef = .pointer (some ⟨b1, 0, none⟩) := by kernel_rfl
          have e3 : (DesA2 x u v c b1 b2 b3 b4 Lx).eval (.tmp 3) = .pointer (some ⟨b1, 0, none⟩) := by kernel_rfl
          exact i_val rfl (.pointer (some ⟨b1, 18, none⟩)) w' (by rfl) (by go_simp) ⟨by kernel_rfl, hw⟩
        | 8, _ =>
          have h7 := haft 7 (by decide)
          have e31 : (DesA2 x u v c b1 b2 b3 b4 Lx).eval (.tmp 31) = .pointer (some ⟨b1, 18, none⟩) := by show (bif Lx 7 then _ else _) = _; rw [h7]; rfl
          have g31 : (DesA2 x u v c b1 b2 b3 b4 Lx).tmps[31]?.getD undef = .pointer (some ⟨b1, 18, none⟩) := by show (bif Lx 7 then _ else _) = _; rw [h7]; rfl
          exact i_wp rfl (by rfl) (wp_store_cell 3 _ _ rfl ⟨b1, 18, none⟩ (.int .i64 0) e31 rfl (kb_run_set hw (i := 0) rfl 3 18 (.int .i64 (bif Lx 8 then 0 else x.p18)) (.int .i64 0) (by rfl) (fun W h1 h2 => by go_simp)) ⟨by kernel_rfl, cast_blk (Kb.set (i := 0) hw rfl 18 (.int .i64 0)) (by rfl)⟩)
        | 9, _ =>
          have g3 : (DesA2 x u v c b1 b2 b3 b4 Lx).tmps[3]?.getD undef = .pointer (some ⟨b1, 0, none⟩) := by kernel_rfl
          have e3 : (DesA2 x u v c b1 b2 b3 b4 Lx).eval (.tmp 3) = .pointer (some ⟨b1, 0, none⟩) := by kernel_rfl
          exact i_val rfl (.pointer (some ⟨b1, 9, none⟩)) w' (by rfl) (by go_simp) ⟨by kernel_rfl, hw⟩
        | 10, _ =>
          have h9 := haft 9 (by decide)
          have e32 : (DesA2 x u v c b1 b2 b3 b4 Lx).eval (.tmp 32) = .pointer (some ⟨b1, 9, none⟩) := by show (bif Lx 9 then _ else _) = _; rw [h9]; rfl
          have g32 : (DesA2 x u v c b1 b2 b3 b4 Lx).tmps[32]?.getD undef = .pointer (some ⟨b1, 9, none⟩) := by show (bif Lx 9 then _ else _) = _; rw [h9]; rfl
          exact i_wp rfl (by rfl) (wp_store_cell 4 _ _ rfl ⟨b1, 9, none⟩ (.bool false) e32 rfl (kb_run_set hw (i := 0) rfl 4 9 (.bool (bif Lx 10 then false else x.p9)) (.bool false) (by rfl) (fun W h1 h2 => by go_simp)) ⟨by kernel_rfl, cast_blk (Kb.set (i := 0) hw rfl 9 (.bool false)) (by rfl)⟩)
        | k + 11, h =>
          exfalso
          have h2 : k + 11 < 11 := h
          omega
      intro Lx ac w6 hI hall
      obtain ⟨rfl, hw⟩ := hI
      have hfr : DesA2 x u v c b1 b2 b3 b4 Lx = { tmps := #[.agg (poA ⟨x.p0, x.p1, x.p2, x.p3, x.p4, x.p5, x.p6, x.p7, x.p8, x.p9, x.p10, x.p11, x.p12, (u.r : Nat), (u.c : Nat), (u.b : Nat), (u.p : Nat), x.p17, x.p18, x.p19, x.p20⟩), .agg (vcA v), .agg (cfA c), .pointer (some ⟨b1, 0, none⟩), .pointer (some ⟨b2, 0, none⟩), .pointer (some ⟨b3, 0, none⟩), .pointer (some ⟨b4, 0, none⟩), .bool false, .bool true, .bool true, .pointer (some ⟨b1, 10, none⟩), .int .i64 x.p10, .bool true, .bool true, .bool true, undef, undef, undef, .bool true, .bool true, undef, undef, undef, undef, .bool true, .pointer (some ⟨b1, 10, none⟩), .bool true, .agg (vcA v), .pointer (some ⟨b1, 12, none⟩), .pointer (some ⟨b1, 13, none⟩), .pointer (some ⟨b1, 17, none⟩), .pointer (some ⟨b1, 18, none⟩), .pointer (some ⟨b1, 9, none⟩), undef, undef, undef, undef, undef, undef, undef, undef, undef, undef, undef], defers := [] } := by unfold DesA2; simp only [hall 0 (by decide), hall 1 (by decide), hall 3 (by decide), hall 5 (by decide), hall 7 (by decide), hall 9 (by decide), cond_true]
      rw [hfr]
      clear hfr
      have hL2 := hall 2 (by decide)
      have hL4 := hall 4 (by decide)
      have hL6 := hall 6 (by decide)
      have hL8 := hall 8 (by decide)
      have hL10 := hall 10 (by decide)
      simp only [hL2, hL4, hL6, hL8, hL10, cond_true] at hw
      have K6 := Lib.hid (show Kb w [(b1, poA ⟨x.p0, x.p1, x.p2, x.p3, x.p4, x.p5, x.p6, x.p7, x.p8, false, 4, x.p11, 1, (v.r : Nat), (v.c : Nat), (v.b : Nat), (v.p : Nat), 0, 0, x.p19, x.p20⟩, 42), (b2, vcA v, 35), (b3, cfA c, 38), (b4, nil21, 42)] w6 from hw)
      clear hw hall hL2 hL4 hL6 hL8 hL10
      go_upto_region 6 with fail
      refine wp_region_lit ?_
      refine wv (.bool true) ?_
      (try simp only [Act.put, gA, gS, gZ, sA, sZ, sS])
      refine wpList_nil ?_
      go_upto_region 7 with fail
      refine wp_region_inv (I := fun L ac w' => ac = DesB2 x u v c b1 b2 b3 b4 L ∧ Kb w [(b1, poA ⟨x.p0, x.p1, x.p2, x.p3, x.p4, x.p5, x.p6, x.p7, x.p8, false, 4, (bif L 3 then 0 else x.p11), 1, (v.r : Nat), (v.c : Nat), (v.b : Nat), (v.p : Nat), 0, 0, (bif L 5 then c.p3 else x.p19), x.p20⟩, 42), (b2, vcA v, 35), (b3, cfA c, 38), (b4, nil21, 42)] w') (by kernel_rfl) (by kernel_rfl) ⟨by kernel_rfl, K6.out.drew⟩ ?_ ?_
      · intro i hi Lx ac w' hI hL haft
        obtain ⟨rfl, hw⟩ := hI
        match i, hi with
        | 0, _ =>
          have g5 : (DesB2 x u v c b1 b2 b3 b4 Lx).tmps[5]?.getD undef = .pointer (some ⟨b3, 0, none⟩) := by kernel_rfl
          have e5 : (DesB2 x u v c b1 b2 b3 b4 Lx).eval (.tmp 5) = .pointer (some ⟨b3, 0, none⟩) := by kernel_rfl
          exact i_val rfl (.pointer (some ⟨b3, 3, none⟩)) w' (by rfl) (by go_simp) ⟨by kernel_rfl, hw⟩
        | 1, _ =>
          have h0 := haft 0 (by decide)
          have e34 : (DesB2 x u v c b1 b2 b3 b4 Lx).eval (.tmp 34) = .pointer (some ⟨b3, 3, none⟩) := by show (bif Lx 0 then _ else _) = _; rw [h0]; rfl
          have g34 : (DesB2 x u v c b1 b2 b3 b4 Lx).tmps[34]?.getD undef = .pointer (some ⟨b3, 3, none⟩) := by show (bif Lx 0 then _ else _) = _; rw [h0]; rfl
          exact i_val rfl (.int .i64 c.p3) w' (by rfl) (by have q : w'.cell? ⟨b3, 3, none⟩ = some (.int .i64 c.p3) := Kb.cell (i := 2) hw rfl (by rfl); go_simp) ⟨by kernel_rfl, hw⟩
        | 2, _ =>
          have g3 : (DesB2 x u v c b1 b2 b3 b4 Lx).tmps[3]?.getD undef = .pointer (some ⟨b1, 0, none⟩) := by kernel_rfl
          have e3 : (DesB2 x u v c b1 b2 b3 b4 Lx).eval (.tmp 3) = .pointer (some ⟨b1, 0, none⟩) := by kernel_rfl
          exact i_val rfl (.pointer (some ⟨b1, 11, none⟩)) w' (by rfl) (by go_simp) ⟨by kernel_rfl, hw⟩
        | 3, _ =>
          have h2 := haft 2 (by decide)
          have e36 : (DesB2 x u v c b1 b2 b3 b4 Lx).eval (.tmp 36) = .pointer (some ⟨b1, 11, none⟩) := by show (bif Lx 2 then _ else _) = _; rw [h2]; rfl
          have g36 : (DesB2 x u v c b1 b2 b3 b4 Lx).tmps[36]?.getD undef = .pointer (some ⟨b1, 11, none⟩) := by show (bif Lx 2 then _ else _) = _; rw [h2]; rfl
          exact i_wp rfl (by rfl) (wp_store_cell 3 _ _ rfl ⟨b1, 11, none⟩ (.int .i64 0) e36 rfl (kb_run_set hw (i := 0) rfl 3 11 (.int .i64 (bif Lx 3 then 0 else x.p11)) (.int .i64 0) (by rfl) (fun W h1 h2 => by go_simp)) ⟨by kernel_rfl, cast_blk (Kb.set (i := 0) hw rfl 11 (.int .i64 0)) (by rfl)⟩)
        | 4, _ =>
          have g3 : (DesB2 x u v c b1 b2 b3 b4 Lx).tmps[3]?.getD undef = .pointer (some ⟨b1, 0, none⟩) := by kernel_rfl
          have e3 : (DesB2 x u v c b1 b2 b3 b4 Lx).eval (.tmp 3) = .pointer (some ⟨b1, 0, none⟩) := by kernel_rfl
          exact i_val rfl (.pointer (some ⟨b1, 19, none⟩)) w' (by rfl) (by go_simp) ⟨by kernel_rfl, hw⟩
        | 5, _ =>
          have h1 := haft 1 (by decide)
          have e35 : (DesB2 x u v c b1 b2 b3 b4 Lx).eval (.tmp 35) = .int .i64 c.p3 := by show (bif Lx 1 then _ else _) = _; rw [h1]; rfl
          have g35 : (DesB2 x u v c b1 b2 b3 b4 Lx).tmps[35]?.getD undef = .int .i64 c.p3 := by show (bif Lx 1 then _ else _) = _; rw [h1]; rfl
          have h4 := haft 4 (by decide)
          have e37 : (DesB2 x u v c b1 b2 b3 b4 Lx).eval (.tmp 37) = .pointer (some ⟨b1, 19, none⟩) := by show (bif Lx 4 then _ else _) = _; rw [h4]; rfl
          have g37 : (DesB2 x u v c b1 b2 b3 b4 Lx).tmps[37]?.getD undef = .pointer (some ⟨b1, 19, none⟩) := by show (bif Lx 4 then _ else _) = _; rw [h4]; rfl
          exact i_wp rfl (by rfl) (wp_store_cell 3 _ _ rfl ⟨b1, 19, none⟩ (.int .i64 c.p3) e37 e35 (kb_run_set hw (i := 0) rfl 3 19 (.int .i64 (bif Lx 5 then c.p3 else x.p19)) (.int .i64 c.p3) (by rfl) (fun W h1 h2 => by go_simp)) ⟨by kernel_rfl, cast_blk (Kb.set (i := 0) hw rfl 19 (.int .i64 c.p3)) (by rfl)⟩)
        | k + 6, h =>
          exfalso
          have h2 : k + 6 < 6 := h
          omega
      intro Lx ac w7 hI hall
      obtain ⟨rfl, hw⟩ := hI
      have hfr : DesB2 x u v c b1 b2 b3 b4 Lx = { tmps := #[.agg (poA ⟨x.p0, x.p1, x.p2, x.p3, x.p4, x.p5, x.p6, x.p7, x.p8, x.p9, x.p10, x.p11, x.p12, (u.r : Nat), (u.c : Nat), (u.b : Nat), (u.p : Nat), x.p17, x.p18, x.p19, x.p20⟩), .agg (vcA v), .agg (cfA c), .pointer (some ⟨b1, 0, none⟩), .pointer (some ⟨b2, 0, none⟩), .pointer (some ⟨b3, 0, none⟩), .pointer (some ⟨b4, 0, none⟩), .bool false, .bool true, .bool true, .pointer (some ⟨b1, 10, none⟩), .int .i64 x.p10, .bool true, .bool true, .bool true, undef, undef, undef, .bool true, .bool true, undef, undef, undef, undef, .bool true, .pointer (some ⟨b1, 10, none⟩), .bool true, .agg (vcA v), .pointer (some ⟨b1, 12, none⟩), .pointer (some ⟨b1, 13, none⟩), .pointer (some ⟨b1, 17, none⟩), .pointer (some ⟨b1, 18, none⟩), .pointer (some ⟨b1, 9, none⟩), .bool true, .pointer (some ⟨b3, 3, none⟩), .int .i64 c.p3, .pointer (some ⟨b1, 11, none⟩), .pointer (some ⟨b1, 19, none⟩), undef, undef, undef, undef, undef, undef], defers := [] } := by unfold DesB2; simp only [hall 0 (by decide), hall 1 (by decide), hall 2 (by decide), hall 4 (by decide), cond_true]
      rw [hfr]
      clear hfr
      have hL3 := hall 3 (by decide)
      have hL5 := hall 5 (by decide)
      simp only [hL3, hL5, cond_true] at hw
      have K7 := Lib.hid (show Kb w [(b1, poA ⟨x.p0, x.p1, x.p2, x.p3, x.p4, x.p5, x.p6, x.p7, x.p8, false, 4, 0, 1, (v.r : Nat), (v.c : Nat), (v.b : Nat), (v.p : Nat), 0, 0, c.p3, x.p20⟩, 42), (b2, vcA v, 35), (b3, cfA c, 38), (b4, nil21, 42)] w7 from hw)
      clear hw hall hL3 hL5
      go_upto_region 8 with fail
      refine wp_region_lit ?_
      refine wv (.agg (poA ⟨x.p0, x.p1, x.p2, x.p3, x.p4, x.p5, x.p6, x.p7, x.p8, false, 4, 0, 1, (v.r : Nat), (v.c : Nat), (v.b : Nat), (v.p : Nat), 0, 0, c.p3, x.p20⟩)) ?_ (hrun := kb_all K7.out 0 rfl 42 _ rfl rfl Try.underlying42 rfl (size50))
      (try simp only [Act.put, gA, gS, gZ, sA, sZ, sS])
      refine kb_call K7.out 13 #[.agg (poA ⟨x.p0, x.p1, x.p2, x.p3, x.p4, x.p5, x.p6, x.p7, x.p8, false, 4, 0, 1, (v.r : Nat), (v.c : Nat), (v.b : Nat), (v.p : Nat), 0, 0, c.p3, x.p20⟩)] (.bool true) (by rfl) (by go_simp) (edge_is ⟨x.p0, x.p1, x.p2, x.p3, x.p4, x.p5, x.p6, x.p7, x.p8, false, 4, 0, 1, (v.r : Nat), (v.c : Nat), (v.b : Nat), (v.p : Nat), 0, 0, c.p3, x.p20⟩ true HED.out w7) ?_
      intro w8 hk
      have K8 := Lib.hid (show Kb w [(b1, poA ⟨x.p0, x.p1, x.p2, x.p3, x.p4, x.p5, x.p6, x.p7, x.p8, false, 4, 0, 1, (v.r : Nat), (v.c : Nat), (v.b : Nat), (v.p : Nat), 0, 0, c.p3, x.p20⟩, 42), (b2, vcA v, 35), (b3, cfA c, 38), (b4, nil21, 42)] w8 from hk)
      clear hk
      (try simp only [Act.put, gA, gS, gZ, sA, sZ, sS])
      refine wpList_nil ?_
      go_upto_region 9 with fail
      refine wp_region_lit ?_
      refine wv (.pointer (some ⟨b1, 11, none⟩)) ?_
      (try simp only [Act.put, gA, gS, gZ, sA, sZ, sS])
      refine kb_set K8.out 0 rfl 3 _ _ 11 (.int .i64 2) rfl (by rfl) rfl rfl (kb_run_set K8.out (i := 0) rfl 3 11 (.int .i64 0) (.int .i64 2) (by rfl) (fun W h1 h2 => by go_simp)) (poA ⟨x.p0, x.p1, x.p2, x.p3, x.p4, x.p5, x.p6, x.p7, x.p8, false, 4, 2, 1, (v.r : Nat), (v.c : Nat), (v.b : Nat), (v.p : Nat), 0, 0, c.p3, x.p20⟩) (by kernel_rfl) ?_
      intro w9 hk
      have K9 := Lib.hid (show Kb w [(b1, poA ⟨x.p0, x.p1, x.p2, x.p3, x.p4, x.p5, x.p6, x.p7, x.p8, false, 4, 2, 1, (v.r : Nat), (v.c : Nat), (v.b : Nat), (v.p : Nat), 0, 0, c.p3, x.p20⟩, 42), (b2, vcA v, 35), (b3, cfA c, 38), (b4, nil21, 42)] w9 from hk)
      clear hk
      (try simp only [Act.put, gA, gS, gZ, sA, sZ, sS])
      refine wv (.pointer (some ⟨b1, 19, none⟩)) ?_
      (try simp only [Act.put, gA, gS, gZ, sA, sZ, sS])
      refine kb_set K9.out 0 rfl 3 _ _ 19 (.int .i64 0) rfl (by rfl) rfl rfl (kb_run_set K9.out (i := 0) rfl 3 19 (.int .i64 c.p3) (.int .i64 0) (by rfl) (fun W h1 h2 => by go_simp)) (poA ⟨x.p0, x.p1, x.p2, x.p3, x.p4, x.p5, x.p6, x.p7, x.p8, false, 4, 2, 1, (v.r : Nat), (v.c : Nat), (v.b : Nat), (v.p : Nat), 0, 0, 0, x.p20⟩) (by kernel_rfl) ?_
      intro w10 hk
      have K10 := Lib.hid (show Kb w [(b1, poA ⟨x.p0, x.p1, x.p2, x.p3, x.p4, x.p5, x.p6, x.p7, x.p8, false, 4, 2, 1, (v.r : Nat), (v.c : Nat), (v.b : Nat), (v.p : Nat), 0, 0, 0, x.p20⟩, 42), (b2, vcA v, 35), (b3, cfA c, 38), (b4, nil21, 42)] w10 from hk)
      clear hk
      (try simp only [Act.put, gA, gS, gZ, sA, sZ, sS])
      refine wpList_nil ?_
      go_upto_region 10 with fail
      refine wp_region_lit ?_
      refine wv (.agg (poA ⟨x.p0, x.p1, x.p2, x.p3, x.p4, x.p5, x.p6, x.p7, x.p8, false, 4, 2, 1, (v.r : Nat), (v.c : Nat), (v.b : Nat), (v.p : Nat), 0, 0, 0, x.p20⟩)) ?_ (hrun := kb_all K10.out 0 rfl 42 _ rfl rfl Try.underlying42 rfl (size50))
      (try simp only [Act.put, gA, gS, gZ, sA, sZ, sS])
      refine wv (.bool true) ?_
      (try simp only [Act.put, gA, gS, gZ, sA, sZ, sS])
      refine kb_row K10.out 3 rfl 42 _ _ (poA ⟨x.p0, x.p1, x.p2, x.p3, x.p4, x.p5, x.p6, x.p7, x.p8, false, 4, 2, 1, (v.r : Nat), (v.c : Nat), (v.b : Nat), (v.p : Nat), 0, 0, 0, x.p20⟩) rfl rfl rfl rfl (size50) (by rfl) (po_all _) ?_
      intro w11 hk
      have K11 := Lib.hid (show Kb w [(b1, poA ⟨x.p0, x.p1, x.p2, x.p3, x.p4, x.p5, x.p6, x.p7, x.p8, false, 4, 2, 1, (v.r : Nat), (v.c : Nat), (v.b : Nat), (v.p : Nat), 0, 0, 0, x.p20⟩, 42), (b2, vcA v, 35), (b3, cfA c, 38), (b4, poA ⟨x.p0, x.p1, x.p2, x.p3, x.p4, x.p5, x.p6, x.p7, x.p8, false, 4, 2, 1, (v.r : Nat), (v.c : Nat), (v.b : Nat), (v.p : Nat), 0, 0, 0, x.p20⟩, 42)] w11 from hk)
      clear hk
      (try simp only [Act.put, gA, gS, gZ, sA, sZ, sS])
      refine wv (.bool true) ?_
      (try simp only [Act.put, gA, gS, gZ, sA, sZ, sS])
      refine wpList_nil ?_
      go_wp2_with fail
      refine bodyPost_ret (v := .tuple #[.agg (poA ⟨x.p0, x.p1, x.p2, x.p3, x.p4, x.p5, x.p6, x.p7, x.p8, false, 4, 2, 1, (v.r : Nat), (v.c : Nat), (v.b : Nat), (v.p : Nat), 0, 0, 0, x.p20⟩), .bool true]) (results_row_tmp Try.results15 _ _ b4 42 (poA ⟨x.p0, x.p1, x.p2, x.p3, x.p4, x.p5, x.p6, x.p7, x.p8, false, 4, 2, 1, (v.r : Nat), (v.c : Nat), (v.b : Nat), (v.p : Nat), 0, 0, 0, x.p20⟩) (.bool true) _ rfl rfl (K11.out.at (i := 3) rfl) Try.underlying42 rfl (po_info _)) rfl ?_
      exact ⟨rfl, K11.out.below⟩
  case pos =>
    by_cases hi : x.p12 = 1
    case neg =>
      cases hed : edgeB x
      case false =>
        have hB : desB x u v = true := by simp [desB, hr, hi]
        have hP : desP x u v c.p3 = ⟨x.p0, x.p1, x.p2, x.p3, x.p4, x.p5, x.p6, x.p7, x.p8, false, 4, x.p11, 1, (v.r : Nat), (v.c : Nat), (v.b : Nat), (v.p : Nat), 0, 0, x.p19, x.p20⟩ := by simp [desP, desV, hB, hed, hr]
        rw [hP, hB]
        unfold poU
        have HED := Lib.hid hed
        clear hP hB hed
        have K := Lib.hid (Kb.nil w)
        go_enter Try.func15, Try.ntmps15
        go_upto_region 0 with fail
        refine wp_region_lit ?_
        refine kb_box K.out 42 (.tmp 0) (poA ⟨x.p0, x.p1, x.p2, x.p3, x.p4, x.p5, x.p6, x.p7, x.p8, x.p9, x.p10, x.p11, x.p12, (u.r : Nat), (u.c : Nat), (u.b : Nat), (u.p : Nat), x.p17, x.p18, x.p19, x.p20⟩) rfl rfl (by rfl) ?_
        intro b1 w1 hb1 hk
        have K1 := Lib.hid (show Kb w [(b1, poA ⟨x.p0, x.p1, x.p2, x.p3, x.p4, x.p5, x.p6, x.p7, x.p8, x.p9, x.p10, x.p11, x.p12, (u.r : Nat), (u.c : Nat), (u.b : Nat), (u.p : Nat), x.p17, x.p18, x.p19, x.p20⟩, 42)] w1 from hk)
        clear hk hb1
        (try simp only [Act.put, gA, gS, gZ, sA, sZ, sS])
        refine kb_box K1.out 35 (.tmp 1) (vcA v) rfl rfl (by rfl) ?_
        intro b2 w2 hb2 hk
        have K2 := Lib.hid (show Kb w [(b1, poA ⟨x.p0, x.p1, x.p2, x.p3, x.p4, x.p5, x.p6, x.p7, x.p8, x.p9, x.p10, x.p11, x.p12, (u.r : Nat), (u.c : Nat), (u.b : Nat), (u.p : Nat), x.p17, x.p18, x.p19, x.p20⟩, 42), (b2, vcA v, 35)] w2 from hk)
        clear hk hb2
        (try simp only [Act.put, gA, gS, gZ, sA, sZ, sS])
        refine kb_box K2.out 38 (.tmp 2) (cfA c) rfl rfl (by rfl) ?_
        intro b3 w3 hb3 hk
        have K3 := Lib.hid (show Kb w [(b1, poA ⟨x.p0, x.p1, x.p2, x.p3, x.p4, x.p5, x.p6, x.p7, x.p8, x.p9, x.p10, x.p11, x.p12, (u.r : Nat), (u.c : Nat), (u.b : Nat), (u.p : Nat), x.p17, x.p18, x.p19, x.p20⟩, 42), (b2, vcA v, 35), (b3, cfA c, 38)] w3 from hk)
        clear hk hb3
        (try simp only [Act.put, gA, gS, gZ, sA, sZ, sS])
        refine kb_alloc K3.out 42 (nil21) rfl z50 (by rfl) ?_
        intro b4 w4 hb4 hk
        have K4 := Lib.hid (show Kb w [(b1, poA ⟨x.p0, x.p1, x.p2, x.p3, x.p4, x.p5, x.p6, x.p7, x.p8, x.p9, x.p10, x.p11, x.p12, (u.r : Nat), (u.c : Nat), (u.b : Nat), (u.p : Nat), x.p17, x.p18, x.p19, x.p20⟩, 42), (b2, vcA v, 35), (b3, cfA c, 38), (b4, nil21, 42)] w4 from hk)
        clear hk hb4
        (try simp only [Act.put, gA, gS, gZ, sA, sZ, sS])
        refine wv (.bool false) ?_
        (try simp only [Act.put, gA, gS, gZ, sA, sZ, sS])
        refine wpList_nil ?_
        go_upto_region 1 with fail
        refine wp_region_lit ?_
        refine wv (.pointer (some ⟨b1, 10, none⟩)) ?_
        (try simp only [Act.put, gA, gS, gZ, sA, sZ, sS])
        refine wv (.int .i64 x.p10) ?_ (hrun := by have q : w4.cell? ⟨b1, 10, none⟩ = some (.int .i64 x.p10) := K4.out.cell (i := 0) rfl (by rfl); go_simp)
        (try simp only [Act.put, gA, gS, gZ, sA, sZ, sS])
        refine wv (.bool false) ?_ (hrun := by have q := hr; go_simp)
        (try simp only [Act.put, gA, gS, gZ, sA, sZ, sS])
        refine wv (.bool false) ?_
        (try simp only [Act.put, gA, gS, gZ, sA, sZ, sS])
        refine wpList_nil ?_
        go_upto_region 2 with fail
        refine wp_region_lit ?_
        refine wv (.bool false) ?_
        (try simp only [Act.put, gA, gS, gZ, sA, sZ, sS])
        refine wv (.bool false) ?_
        (try simp only [Act.put, gA, gS, gZ, sA, sZ, sS])
        refine wv (.pointer (some ⟨b1, 12, none⟩)) ?_
        (try simp only [Act.put, gA, gS, gZ, sA, sZ, sS])
        refine wv (.int .i64 x.p12) ?_ (hrun := by have q : w4.cell? ⟨b1, 12, none⟩ = some (.int .i64 x.p12) := K4.out.cell (i := 0) rfl (by rfl); go_simp)
        (try simp only [Act.put, gA, gS, gZ, sA, sZ, sS])
        refine wv (.bool true) ?_ (hrun := by have q := hi; go_simp)
        (try simp only [Act.put, gA, gS, gZ, sA, sZ, sS])
        refine wv (.bool true) ?_ (hrun := run_pick_no (.tmp 14) (.const (.bool true)) (.tmp 17) _ rfl rfl rfl)
        (try simp only [Act.put, gA, gS, gZ, sA, sZ, sS])
        refine wv (.bool true) ?_
        (try simp only [Act.put, gA, gS, gZ, sA, sZ, sS])
        refine wpList_skip (by kernel_rfl) ?_
        (try simp only [Act.put, gA, gS, gZ, sA, sZ, sS])
        refine wpList_skip (by kernel_rfl) ?_
        (try simp only [Act.put, gA, gS, gZ, sA, sZ, sS])
        refine wpList_skip (by kernel_rfl) ?_
        (try simp only [Act.put, gA, gS, gZ, sA, sZ, sS])
        refine wpList_skip (by kernel_rfl) ?_
        (try simp only [Act.put, gA, gS, gZ, sA, sZ, sS])
        refine wv (.bool true) ?_ (hrun := run_pick_yes (.tmp 19) (.const (.bool true)) (.tmp 23) _ rfl rfl rfl)
        (try simp only [Act.put, gA, gS, gZ, sA, sZ, sS])
        refine wv (.bool true) ?_
        (try simp only [Act.put, gA, gS, gZ, sA, sZ, sS])
        refine wpList_nil ?_
        go_upto_region 3 with fail
        refine wp_region_lit ?_
        refine wv (.pointer (some ⟨b1, 10, none⟩)) ?_
        (try simp only [Act.put, gA, gS, gZ, sA, sZ, sS])
        refine kb_set K4.out 0 rfl 3 _ _ 10 (.int .i64 4) rfl (by rfl) rfl rfl (kb_run_set K4.out (i := 0) rfl 3 10 (.int .i64 x.p10) (.int .i64 4) (by rfl) (fun W h1 h2 => by go_simp)) (poA ⟨x.p0, x.p1, x.p2, x.p3, x.p4, x.p5, x.p6, x.p7, x.p8, x.p9, 4, x.p11, x.p12, (u.r : Nat), (u.c : Nat), (u.b : Nat), (u.p : Nat), x.p17, x.p18, x.p19, x.p20⟩) (by kernel_rfl) ?_
        intro w5 hk
        have K5 := Lib.hid (show Kb w [(b1, poA ⟨x.p0, x.p1, x.p2, x.p3, x.p4, x.p5, x.p6, x.p7, x.p8, x.p9, 4, x.p11, x.p12, (u.r : Nat), (u.c : Nat), (u.b : Nat), (u.p : Nat), x.p17, x.p18, x.p19, x.p20⟩, 42), (b2, vcA v, 35), (b3, cfA c, 38), (b4, nil21, 42)] w5 from hk)
        clear hk
        (try simp only [Act.put, gA, gS, gZ, sA, sZ, sS])
        refine wpList_nil ?_
        go_upto_region 4 with fail
        refine wp_region_lit ?_
        refine wv (.bool true) ?_
        (try simp only [Act.put, gA, gS, gZ, sA, sZ, sS])
        refine wpList_nil ?_
        go_upto_region 5 with fail
        refine wp_region_inv (I := fun L ac w' => ac = DesA3 x u v c b1 b2 b3 b4 L ∧ Kb w [(b1, poA ⟨x.p0, x.p1, x.p2, x.p3, x.p4, x.p5, x.p6, x.p7, x.p8, (bif L 10 then false else x.p9), 4, x.p11, (bif L 2 then 1 else x.p12), (bif L 4 then (v.r : Nat) else (u.r : Nat)), (bif L 4 then (v.c : Nat) else (u.c : Nat)), (bif L 4 then (v.b : Nat) else (u.b : Nat)), (bif L 4 then (v.p : Nat) else (u.p : Nat)), (bif L 6 then 0 else x.p17), (bif L 8 then 0 else x.p18), x.p19, x.p20⟩, 42), (b2, vcA v, 35), (b3, cfA c, 38), (b4, nil21, 42)] w') (by kernel_rfl) (by kernel_rfl) ⟨by kernel_rfl, K5.out.drew⟩ ?_ ?_
        · intro i hi Lx ac w' hI hL haft
          obtain ⟨rfl, hw⟩ := hI
          match i, hi with
          | 0, _ =>
            have g4 : (DesA3 x u v c b1 b2 b3 b4 Lx).tmps[4]?.getD undef = .pointer (some ⟨b2, 0, none⟩) := by kernel_rfl
            have e4 : (DesA3 x u v c b1 b2 b3 b4 Lx).eval (.tmp 4) = .pointer (some ⟨b2, 0, none⟩) := by kernel_rfl
            exact i_val rfl (.agg (vcA v)) w' (by rfl) (kb_all hw 1 rfl 35 _ rfl e4 Try.underlying35 rfl (sizeV)) ⟨by kernel_rfl, hw⟩
          | 1, _ =>
            have g3 : (DesA3 x u v c b1 b2 b3 b4 Lx).tmps[3]?.getD undef = .pointer (some ⟨b1, 0, none⟩) := by kernel_rfl
            have e3 : (DesA3 x u v c b1 b2 b3 b4 Lx).eval (.tmp 3) = .pointer (some ⟨b1, 0, none⟩) := by kernel_rfl
            exact i_val rfl (.pointer (some ⟨b1, 12, none⟩)) w' (by rfl) (by go_simp) ⟨by kernel_rfl, hw⟩
          | 2, _ =>
            have h1 := haft 1 (by decide)
            have e28 : (DesA3 x u v c b1 b2 b3 b4 Lx).eval (.tmp 28) = .pointer (some ⟨b1, 12, none⟩) := by show (bif Lx 1 then _ else _) = _; rw [h1]; rfl
            have g28 : (DesA3 x u v c b1 b2 b3 b4 Lx).tmps[28]?.getD undef = .pointer (some ⟨b1, 12, none⟩) := by show (bif Lx 1 then _ else _) = _; rw [h1]; rfl
            exact i_wp rfl (by rfl) (wp_store_cell 3 _ _ rfl ⟨b1, 12, none⟩ (.int .i64 1) e28 rfl (kb_run_set hw (i := 0) rfl 3 12 (.int .i64 (bif Lx 2 then 1 else x.p12)) (.int .i64 1) (by rfl) (fun W h1 h2 => by go_simp)) ⟨by kernel_rfl, cast_blk (Kb.set (i := 0) hw rfl 12 (.int .i64 1)) (by rfl)⟩)
          | 3, _ =>
            have g3 : (DesA3 x u v c b1 b2 b3 b4 Lx).tmps[3]?.getD undef = .pointer (some ⟨b1, 0, none⟩) := by kernel_rfl
            have e3 : (DesA3 x u v c b1 b2 b3 b4 Lx).eval (.tmp 3) = .pointer (some ⟨b1, 0, none⟩) := by kernel_rfl
            exact i_val rfl (.pointer (some ⟨b1, 13, none⟩)) w' (by rfl) (by go_simp) ⟨by kernel_rfl, hw⟩
          | 4, _ =>
            have h0 := haft 0 (by decide)
            have e27 : (DesA3 x u v c b1 b2 b3 b4 Lx).eval (.tmp 27) = .agg (vcA v) := by show (bif Lx 0 then _ else _) = _; rw [h0]; rfl
            have g27 : (DesA3 x u v c b1 b2 b3 b4 Lx).tmps[27]?.getD undef = .agg (vcA v) := by show (bif Lx 0 then _ else _) = _; rw [h0]; rfl
            have h3 := haft 3 (by decide)
            have e29 : (DesA3 x u v c b1 b2 b3 b4 Lx).eval (.tmp 29) = .pointer (some ⟨b1, 13, none⟩) := by show (bif Lx 3 then _ else _) = _; rw [h3]; rfl
            have g29 : (DesA3 x u v c b1 b2 b3 b4 Lx).tmps[29]?.getD undef = .pointer (some ⟨b1, 13, none⟩) := by show (bif Lx 3 then _ else _) = _; rw [h3]; rfl
            exact i_wp rfl (by rfl) (wp_store_mid 35 _ _ rfl b1 13 (vcA v) e29 e27 ((Kb.at (i := 0) hw rfl).thereN 13 4 (Nat.le_of_ble_eq_true (by kernel_rfl))) (sizeV) (by kernel_rfl) ⟨by kernel_rfl, cast_blk (Kb.mid (i := 0) hw rfl 13 (vcA v).toList) (by rfl)⟩)
          | 5, _ =>
            have g3 : (DesA3 x u v c b1 b2 b3 b4 Lx).tmps[3]?.getD undef = .pointer (some ⟨b1, 0, none⟩) := by kernel_rfl
            have e3 : (DesA3 x u v c b1 b2 b3 b4 Lx).eval (.tmp 3) = .pointer (some ⟨b1, 0, none⟩) := by kernel_rfl
            exact i_val rfl (.pointer (some ⟨b1, 17, none⟩)) w' (by rfl) (by go_simp) ⟨by kernel_rfl, hw⟩
          | 6, _ =>
            have h5 := haft 5 (by decide)
            have e30 : (DesA3 x u v c b1 b2 b3 b4 Lx).eval (.tmp 30) = .pointer (some ⟨b1, 17, none⟩) := by show (bif Lx 5 then _ else _) = _; rw [h5]; rfl
            have g30 : (DesA3 x u v c b1 b2 b3 b4 Lx).tmps[30]?.getD undef = .pointer (some ⟨b1, 17, none⟩) := by show (bif Lx 5 then _ else _) = _; rw [h5]; rfl
            exact i_wp rfl (by rfl) (wp_store_cell 3 _ _ rfl ⟨b1, 17, none⟩ (.int .i64 0) e30 rfl (kb_run_set hw (i := 0) rfl 3 17 (.int .i64 (bif Lx 6 then 0 else x.p17)) (.int .i64 0) (by rfl) (fun W h1 h2 => by go_simp)) ⟨by kernel_rfl, cast_blk (Kb.set (i := 0) hw rfl 17 (.int .i64 0)) (by rfl)⟩)
          | 7, _ =>
            have g3 : (DesA3 x u v c b1 b2 b3 b4 Lx).tmps[3]?.getD undef = .pointer (some ⟨b1, 0, none⟩) := by kernel_rfl
            have e3 : (DesA3 x u v c b1 b2 b3 b4 Lx).eval (.tmp 3) = .pointer (some ⟨b1, 0, none⟩) := by kernel_rfl
            exact i_val rfl (.pointer (some ⟨b1, 18, none⟩)) w' (by rfl) (by go_simp) ⟨by kernel_rfl, hw⟩
          | 8, _ =>
            have h7 := haft 7 (by decide)
            have e31 : (DesA3 x u v c b1 b2 b3 b4 Lx).eval (.tmp 31) = .pointer (some ⟨b1, 18, none⟩) := by show (bif Lx 7 then _ else _) = _; rw [h7]; rfl
            have g31 : (DesA3 x u v c b1 b2 b3 b4 Lx).tmps[31]?.getD undef = .pointer (some ⟨b1, 18, none⟩) := by show (bif Lx 7 then _ else _) = _; rw [h7]; rfl
            exact i_wp rfl (by rfl) (wp_store_cell 3 _ _ rfl ⟨b1, 18, none⟩ (.int .i64 0) e31 rfl (kb_run_set hw (i := 0) rfl 3 18 (.int .i64 (bif Lx 8 then 0 else x.p18)) (.int .i64 0) (by rfl) (fun W h1 h2 => by go_simp)) ⟨by kernel_rfl, cast_blk (Kb.set (i := 0) hw rfl 18 (.int .i64 0)) (by rfl)⟩)
          | 9, _ =>
            have g3 : (DesA3 x u v c b1 b2 b3 b4 Lx).tmps[3]?.getD undef = .pointer (some ⟨b1, 0, none⟩) := by kernel_rfl
            have e3 : (DesA3 x u v c b1 b2 b3 b4 Lx).eval (.tmp 3) = .pointer (some ⟨b1, 0, none⟩) := by kernel_rfl
            exact i_val rfl (.pointer (some ⟨b1, 9, none⟩)) w' (by rfl) (by go_simp) ⟨by kernel_rfl, hw⟩
          | 10, _ =>
            have h9 := haft 9 (by decide)
            have e32 : (DesA3 x u v c b1 b2 b3 b4 Lx).eval (.tmp 32) = .pointer (some ⟨b1, 9, none⟩) := by show (bif Lx 9 then _ else _) = _; rw [h9]; rfl
            have g32 : (DesA3 x u v c b1 b2 b3 b4 Lx).tmps[32]?.getD undef = .pointer (some ⟨b1, 9, none⟩) := by show (bif Lx 9 then _ else _) = _; rw [h9]; rfl
            exact i_wp rfl (by rfl) (wp_store_cell 4 _ _ rfl ⟨b1, 9, none⟩ (.bool false) e32 rfl (kb_run_set hw (i := 0) rfl 4 9 (.bool (bif Lx 10 then false else x.p9)) (.bool false) (by rfl) (fun W h1 h2 => by go_simp)) ⟨by kernel_rfl, cast_blk (Kb.set (i := 0) hw rfl 9 (.bool false)) (by rfl)⟩)
          | k + 11, h =>
            exfalso
            have h2 : k + 11 < 11 := h
            omega
        intro Lx ac w6 hI hall
        obtain ⟨rfl, hw⟩ := hI
        have hfr : DesA3 x u v c b1 b2 b3 b4 Lx = { tmps := #[.agg (poA ⟨x.p0, x.p1, x.p2, x.p3, x.p4, x.p5, x.p6, x.p7, x.p8, x.p9, x.p10, x.p11, x.p12, (u.r : Nat), (u.c : Nat), (u.b : Nat), (u.p : Nat), x.p17, x.p18, x.p19, x.p20⟩), .agg (vcA v), .agg (cfA c), .pointer (some ⟨b1, 0, none⟩), .pointer (some ⟨b2, 0, none⟩), .pointer (some ⟨b3, 0, none⟩), .pointer (some ⟨b4, 0, none⟩), .bool false, .bool false, .bool true, .pointer (some ⟨b1, 10, none⟩), .int .i64 x.p10, .bool false, .bool false, .bool false, .pointer (some ⟨b1, 12, none⟩), .int .i64 x.p12, .bool true, .bool true, .bool true, undef, undef, undef, undef, .bool true, .pointer (some ⟨b1, 10, none⟩), .bool true, .agg (vcA v), .pointer (some ⟨b1, 12, none⟩), .pointer (some ⟨b1, 13, none⟩), .pointer (some ⟨b1, 17, none⟩), .pointer (some ⟨b1, 18, none⟩), .pointer (some ⟨b1, 9, none⟩), undef, undef, undef, undef, undef, undef, undef, undef, undef, undef, undef], defers := [] } := by unfold DesA3; simp only [hall 0 (by decide), hall 1 (by decide), hall 3 (by decide), hall 5 (by decide), hall 7 (by decide), hall 9 (by decide), cond_true]
        rw [hfr]
        clear hfr
        have hL2 := hall 2 (by decide)
        have hL4 := hall 4 (by decide)
        have hL6 := hall 6 (by decide)
        have hL8 := hall 8 (by decide)
        have hL10 := hall 10 (by decide)
        simp only [hL2, hL4, hL6, hL8, hL10, cond_true] at hw
        have K6 := Lib.hid (show Kb w [(b1, poA ⟨x.p0, x.p1, x.p2, x.p3, x.p4, x.p5, x.p6, x.p7, x.p8, false, 4, x.p11, 1, (v.r : Nat), (v.c : Nat), (v.b : Nat), (v.p : Nat), 0, 0, x.p19, x.p20⟩, 42), (b2, vcA v, 35), (b3, cfA c, 38), (b4, nil21, 42)] w6 from hw)
        clear hw hall hL2 hL4 hL6 hL8 hL10
        go_upto_region 6 with fail
        refine wp_region_lit ?_
        refine wv (.bool false) ?_
        (try simp only [Act.put, gA, gS, gZ, sA, sZ, sS])
        refine wpList_nil ?_
        go_upto_region 8 with fail
        refine wp_region_lit ?_
        refine wv (.agg (poA ⟨x.p0, x.p1, x.p2, x.p3, x.p4, x.p5, x.p6, x.p7, x.p8, false, 4, x.p11, 1, (v.r : Nat), (v.c : Nat), (v.b : Nat), (v.p : Nat), 0, 0, x.p19, x.p20⟩)) ?_ (hrun := kb_all K6.out 0 rfl 42 _ rfl rfl Try.underlying42 rfl (size50))
        (try simp only [Act.put, gA, gS, gZ, sA, sZ, sS])
        refine kb_call K6.out 13 #[.agg (poA ⟨x.p0, x.p1, x.p2, x.p3, x.p4, x.p5, x.p6, x.p7, x.p8, false, 4, x.p11, 1, (v.r : Nat), (v.c : Nat), (v.b : Nat), (v.p : Nat), 0, 0, x.p19, x.p20⟩)] (.bool false) (by rfl) (by go_simp) (edge_is ⟨x.p0, x.p1, x.p2, x.p3, x.p4, x.p5, x.p6, x.p7, x.p8, false, 4, x.p11, 1, (v.r : Nat), (v.c : Nat), (v.b : Nat), (v.p : Nat), 0, 0, x.p19, x.p20⟩ false HED.out w6) ?_
        intro w7 hk
        have K7 := Lib.hid (show Kb w [(b1, poA ⟨x.p0, x.p1, x.p2, x.p3, x.p4, x.p5, x.p6, x.p7, x.p8, false, 4, x.p11, 1, (v.r : Nat), (v.c : Nat), (v.b : Nat), (v.p : Nat), 0, 0, x.p19, x.p20⟩, 42), (b2, vcA v, 35), (b3, cfA c, 38), (b4, nil21, 42)] w7 from hk)
        clear hk
        (try simp only [Act.put, gA, gS, gZ, sA, sZ, sS])
        refine wpList_nil ?_
        go_upto_region 10 with fail
        refine wp_region_lit ?_
        refine wv (.agg (poA ⟨x.p0, x.p1, x.p2, x.p3, x.p4, x.p5, x.p6, x.p7, x.p8, false, 4, x.p11, 1, (v.r : Nat), (v.c : Nat), (v.b : Nat), (v.p : Nat), 0, 0, x.p19, x.p20⟩)) ?_ (hrun := kb_all K7.out 0 rfl 42 _ rfl rfl Try.underlying42 rfl (size50))
        (try simp only [Act.put, gA, gS, gZ, sA, sZ, sS])
        refine wv (.bool true) ?_
        (try simp only [Act.put, gA, gS, gZ, sA, sZ, sS])
        refine kb_row K7.out 3 rfl 42 _ _ (poA ⟨x.p0, x.p1, x.p2, x.p3, x.p4, x.p5, x.p6, x.p7, x.p8, false, 4, x.p11, 1, (v.r : Nat), (v.c : Nat), (v.b : Nat), (v.p : Nat), 0, 0, x.p19, x.p20⟩) rfl rfl rfl rfl (size50) (by rfl) (po_all _) ?_
        intro w8 hk
        have K8 := Lib.hid (show Kb w [(b1, poA ⟨x.p0, x.p1, x.p2, x.p3, x.p4, x.p5, x.p6, x.p7, x.p8, false, 4, x.p11, 1, (v.r : Nat), (v.c : Nat), (v.b : Nat), (v.p : Nat), 0, 0, x.p19, x.p20⟩, 42), (b2, vcA v, 35), (b3, cfA c, 38), (b4, poA ⟨x.p0, x.p1, x.p2, x.p3, x.p4, x.p5, x.p6, x.p7, x.p8, false, 4, x.p11, 1, (v.r : Nat), (v.c : Nat), (v.b : Nat), (v.p : Nat), 0, 0, x.p19, x.p20⟩, 42)] w8 from hk)
        clear hk
        (try simp only [Act.put, gA, gS, gZ, sA, sZ, sS])
        refine wv (.bool true) ?_
        (try simp only [Act.put, gA, gS, gZ, sA, sZ, sS])
        refine wpList_nil ?_
        go_wp2_with fail
        refine bodyPost_ret (v := .tuple #[.agg (poA ⟨x.p0, x.p1, x.p2, x.p3, x.p4, x.p5, x.p6, x.p7, x.p8, false, 4, x.p11, 1, (v.r : Nat), (v.c : Nat), (v.b : Nat), (v.p : Nat), 0, 0, x.p19, x.p20⟩), .bool true]) (results_row_tmp Try.results15 _ _ b4 42 (poA ⟨x.p0, x.p1, x.p2, x.p3, x.p4, x.p5, x.p6, x.p7, x.p8, false, 4, x.p11, 1, (v.r : Nat), (v.c : Nat), (v.b : Nat), (v.p : Nat), 0, 0, x.p19, x.p20⟩) (.bool true) _ rfl rfl (K8.out.at (i := 3) rfl) Try.underlying42 rfl (po_info _)) rfl ?_
        exact ⟨rfl, K8.out.below⟩
      case true =>
        have hB : desB x u v = true := by simp [desB, hr, hi]
        have hP : desP x u v c.p3 = ⟨x.p0, x.p1, x.p2, x.p3, x.p4, x.p5, x.p6, x.p7, x.p8, false, 4, 2, 1, (v.r : Nat), (v.c : Nat), (v.b : Nat), (v.p : Nat), 0, 0, 0, x.p20⟩ := by simp [desP, desV, hB, hed, hr]
        rw [hP, hB]
        unfold poU
        have HED := Lib.hid hed
        clear hP hB hed
        have K := Lib.hid (Kb.nil w)
        go_enter Try.func15, Try.ntmps15
        go_upto_region 0 with fail
        refine wp_region_lit ?_
        refine kb_box K.out 42 (.tmp 0) (poA ⟨x.p0, x.p1, x.p2, x.p3, x.p4, x.p5, x.p6, x.p7, x.p8, x.p9, x.p10, x.p11, x.p12, (u.r : Nat), (u.c : Nat), (u.b : Nat), (u.p : Nat), x.p17, x.p18, x.p19, x.p20⟩) rfl rfl (by rfl) ?_
        intro b1 w1 hb1 hk
        have K1 := Lib.hid (show Kb w [(b1, poA ⟨x.p0, x.p1, x.p2, x.p3, x.p4, x.p5, x.p6, x.p7, x.p8, x.p9, x.p10, x.p11, x.p12, (u.r : Nat), (u.c : Nat), (u.b : Nat), (u.p : Nat), x.p17, x.p18, x.p19, x.p20⟩, 42)] w1 from hk)
        clear hk hb1
        (try simp only [Act.put, gA, gS, gZ, sA, sZ, sS])
        refine kb_box K1.out 35 (.tmp 1) (vcA v) rfl rfl (by rfl) ?_
        intro b2 w2 hb2 hk
        have K2 := Lib.hid (show Kb w [(b1, poA ⟨x.p0, x.p1, x.p2, x.p3, x.p4, x.p5, x.p6, x.p7, x.p8, x.p9, x.p10, x.p11, x.p12, (u.r : Nat), (u.c : Nat), (u.b : Nat), (u.p : Nat), x.p17, x.p18, x.p19, x.p20⟩, 42), (b2, vcA v, 35)] w2 from hk)
        clear hk hb2
        (try simp only [Act.put, gA, gS, gZ, sA, sZ, sS])
        refine kb_box K2.out 38 (.tmp 2) (cfA c) rfl rfl (by rfl) ?_
        intro b3 w3 hb3 hk
        have K3 := Lib.hid (show Kb w [(b1, poA ⟨x.p0, x.p1, x.p2, x.p3, x.p4, x.p5, x.p6, x.p7, x.p8, x.p9, x.p10, x.p11, x.p12, (u.r : Nat), (u.c : Nat), (u.b : Nat), (u.p : Nat), x.p17, x.p18, x.p19, x.p20⟩, 42), (b2, vcA v, 35), (b3, cfA c, 38)] w3 from hk)
        clear hk hb3
        (try simp only [Act.put, gA, gS, gZ, sA, sZ, sS])
        refine kb_alloc K3.out 42 (nil21) rfl z50 (by rfl) ?_
        intro b4 w4 hb4 hk
        have K4 := Lib.hid (show Kb w [(b1, poA ⟨x.p0, x.p1, x.p2, x.p3, x.p4, x.p5, x.p6, x.p7, x.p8, x.p9, x.p10, x.p11, x.p12, (u.r : Nat), (u.c : Nat), (u.b : Nat), (u.p : Nat), x.p17, x.p18, x.p19, x.p20⟩, 42), (b2, vcA v, 35), (b3, cfA c, 38), (b4, nil21, 42)] w4 from hk)
        clear hk hb4
        (try simp only [Act.put, gA, gS, gZ, sA, sZ, sS])
        refine wv (.bool false) ?_
        (try simp only [Act.put, gA, gS, gZ, sA, sZ, sS])
        refine wpList_nil ?_
        go_upto_region 1 with fail
        refine wp_region_lit ?_
        refine wv (.pointer (some ⟨b1, 10, none⟩)) ?_
        (try simp only [Act.put, gA, gS, gZ, sA, sZ, sS])
        refine wv (.int .i64 x.p10) ?_ (hrun := by have q : w4.cell? ⟨b1, 10, none⟩ = some (.int .i64 x.p10) := K4.out.cell (i := 0) rfl (by rfl); go_simp)
        (try simp only [Act.put, gA, gS, gZ, sA, sZ, sS])
        refine wv (.bool false) ?_ (hrun := by have q := hr; go_simp)
        (try simp only [Act.put, gA, gS, gZ, sA, sZ, sS])
        refine wv (.bool false) ?_
        (try simp only [Act.put, gA, gS, gZ, sA, sZ, sS])
        refine wpList_nil ?_
        go_upto_region 2 with fail
        refine wp_region_lit ?_
        refine wv (.bool false) ?_
        (try simp only [Act.put, gA, gS, gZ, sA, sZ, sS])
        refine wv (.bool false) ?_
        (try simp only [Act.put, gA, gS, gZ, sA, sZ, sS])
        refine wv (.pointer (some ⟨b1, 12, none⟩)) ?_
        (try simp only [Act.put, gA, gS, gZ, sA, sZ, sS])
        refine wv (.int .i64 x.p12) ?_ (hrun := by have q : w4.cell? ⟨b1, 12, none⟩ = some (.int .i64 x.p12) := K4.out.cell (i := 0) rfl (by rfl); go_simp)
        (try simp only [Act.put, gA, gS, gZ, sA, sZ, sS])
        refine wv (.bool true) ?_ (hrun := by have q := hi; go_simp)
        (try simp only [Act.put, gA, gS, gZ, sA, sZ, sS])
        refine wv (.bool true) ?_ (hrun := run_pick_no (.tmp 14) (.const (.bool true)) (.tmp 17) _ rfl rfl rfl)
        (try simp only [Act.put, gA, gS, gZ, sA, sZ, sS])
        refine wv (.bool true) ?_
        (try simp only [Act.put, gA, gS, gZ, sA, sZ, sS])
        refine wpList_skip (by kernel_rfl) ?_
        (try simp only [Act.put, gA, gS, gZ, sA, sZ, sS])
        refine wpList_skip (by kernel_rfl) ?_
        (try simp only [Act.put, gA, gS, gZ, sA, sZ, sS])
        refine wpList_skip (by kernel_rfl) ?_
        (try simp only [Act.put, gA, gS, gZ, sA, sZ, sS])
        refine wpList_skip (by kernel_rfl) ?_
        (try simp only [Act.put, gA, gS, gZ, sA, sZ, sS])
        refine wv (.bool true) ?_ (hrun := run_pick_yes (.tmp 19) (.const (.bool true)) (.tmp 23) _ rfl rfl rfl)
        (try simp only [Act.put, gA, gS, gZ, sA, sZ, sS])
        refine wv (.bool true) ?_
        (try simp only [Act.put, gA, gS, gZ, sA, sZ, sS])
        refine wpList_nil ?_
        go_upto_region 3 with fail
        refine wp_region_lit ?_
        refine wv (.pointer (some ⟨b1, 10, none⟩)) ?_
        (try simp only [Act.put, gA, gS, gZ, sA, sZ, sS])
        refine kb_set K4.out 0 rfl 3 _ _ 10 (.int .i64 4) rfl (by rfl) rfl rfl (kb_run_set K4.out (i := 0) rfl 3 10 (.int .i64 x.p10) (.int .i64 4) (by rfl) (fun W h1 h2 => by go_simp)) (poA ⟨x.p0, x.p1, x.p2, x.p3, x.p4, x.p5, x.p6, x.p7, x.p8, x.p9, 4, x.p11, x.p12, (u.r : Nat), (u.c : Nat), (u.b : Nat), (u.p : Nat), x.p17, x.p18, x.p19, x.p20⟩) (by kernel_rfl) ?_
        intro w5 hk
        have K5 := Lib.hid (show Kb w [(b1, poA ⟨x.p0, x.p1, x.p2, x.p3, x.p4, x.p5, x.p6, x.p7, x.p8, x.p9, 4, x.p11, x.p12, (u.r : Nat), (u.c : Nat), (u.b : Nat), (u.p : Nat), x.p17, x.p18, x.p19, x.p20⟩, 42), (b2, vcA v, 35), (b3, cfA c, 38), (b4, nil21, 42)] w5 from hk)
        clear hk
        (try simp only [Act.put, gA, gS, gZ, sA, sZ, sS])
        refine wpList_nil ?_
        go_upto_region 4 with fail
        refine wp_region_lit ?_
        refine wv (.bool true) ?_
        (try simp only [Act.put, gA, gS, gZ, sA, sZ, sS])
        refine wpList_nil ?_
        go_upto_region 5 with fail
        refine wp_region_inv (I := fun L ac w' => ac = DesA4 x u v c b1 b2 b3 b4 L ∧ Kb w [(b1, poA ⟨x.p0, x.p1, x.p2, x.p3, x.p4, x.p5, x.p6, x.p7, x.p8, (bif L 10 then false else x.p9), 4, x.p11, (bif L 2 then 1 else x.p12), (bif L 4 then (v.r : Nat) else (u.r : Nat)), (bif L 4 then (v.c : Nat) else (u.c : Nat)), (bif L 4 then (v.b : Nat) else (u.b : Nat)), (bif L 4 then (v.p : Nat) else (u.p : Nat)), (bif L 6 then 0 else x.p17), (bif L 8 then 0 else x.p18), x.p19, x.p20⟩, 42), (b2, vcA v, 35), (b3, cfA c, 38), (b4, nil21, 42)] w') (by kernel_rfl) (by kernel_rfl) ⟨by kernel_rfl, K5.out.drew⟩ ?_ ?_
        · intro i hi Lx ac w' hI hL haft
          obtain ⟨rfl, hw⟩ := hI
          match i, hi with
          | 0, _ =>
            have g4 : (DesA4 x u v c b1 b2 b3 b4 Lx).tmps[4]?.getD undef = .pointer (some ⟨b2, 0, none⟩) := by kernel_rfl
            have e4 : (DesA4 x u v c b1 b2 b3 b4 Lx).eval (.tmp 4) = .pointer (some ⟨b2, 0, none⟩) := by kernel_rfl
            exact i_val rfl (.agg (vcA v)) w' (by rfl) (kb_all hw 1 rfl 35 _ rfl e4 Try.underlying35 rfl (sizeV)) ⟨by kernel_rfl, hw⟩
          | 1, _ =>
            have g3 : (DesA4 x u v c b1 b2 b3 b4 Lx).tmps[3]?.getD undef = .pointer (some ⟨b1, 0, none⟩) := by kernel_rfl
            have e3 : (DesA4 x u v c b1 b2 b3 b4 Lx).eval (.tmp 3) = .pointer (some ⟨b1, 0, none⟩) := by kernel_rfl
            exact i_val rfl (.pointer (some ⟨b1, 12, none⟩)) w' (by rfl) (by go_simp) ⟨by kernel_rfl, hw⟩
          | 2, _ =>
            have h1 := haft 1 (by decide)
            have e28 : (DesA4 x u v c b1 b2 b3 b4 Lx).eval (.tmp 28) = .pointer (some ⟨b1, 12, none⟩) := by show (bif Lx 1 then _ else _) = _; rw [h1]; rfl
            have g28 : (DesA4 x u v c b1 b2 b3 b4 Lx).tmps[28]?.getD undef = .pointer (some ⟨b1, 12, none⟩) := by show (bif Lx 1 then _ else _) = _; rw [h1]; rfl
            exact i_wp rfl (by rfl) (wp_store_cell 3 _ _ rfl ⟨b1, 12, none⟩ (.int .i64 1) e28 rfl (kb_run_set hw (i := 0) rfl 3 12 (.int .i64 (bif Lx 2 then 1 else x.p12)) (.int .i64 1) (by rfl) (fun W h1 h2 => by go_simp)) ⟨by kernel_rfl, cast_blk (Kb.set (i := 0) hw rfl 12 (.int .i64 1)) (by rfl)⟩)
          | 3, _ =>
            have g3 : (DesA4 x u v c b1 b2 b3 b4 Lx).tmps[3]?.getD undef = .pointer (some ⟨b1, 0, none⟩) := by kernel_rfl
            have e3 : (DesA4 x u v c b1 b2 b3 b4 Lx).eval (.tmp 3) = .pointer (some ⟨b1, 0, none⟩) := by kernel_rfl
            exact i_val rfl (.pointer (some ⟨b1, 13, none⟩)) w' (by rfl) (by go_simp) ⟨by kernel_rfl, hw⟩
          | 4, _ =>
            have h0 := haft 0 (by decide)
            have e27 : (DesA4 x u v c b1 b2 b3 b4 Lx).eval (.tmp 27) = .agg (vcA v) := by show (bif Lx 0 then _ else _) = _; rw [h0]; rfl
            have g27 : (DesA4 x u v c b1 b2 b3 b4 Lx).tmps[27]?.getD undef = .agg (vcA v) := by show (bif Lx 0 then _ else _) = _; rw [h0]; rfl
            have h3 := haft 3 (by decide)
            have e29 : (DesA4 x u v c b1 b2 b3 b4 Lx).eval (.tmp 29) = .pointer (some ⟨b1, 13, none⟩) := by show (bif Lx 3 then _ else _) = _; rw [h3]; rfl
            have g29 : (DesA4 x u v c b1 b2 b3 b4 Lx).tmps[29]?.getD undef = .pointer (some ⟨b1, 13, none⟩) := by show (bif Lx 3 then _ else _) = _; rw [h3]; rfl
            exact i_wp rfl (by rfl) (wp_store_mid 35 _ _ rfl b1 13 (vcA v) e29 e27 ((Kb.at (i := 0) hw rfl).thereN 13 4 (Nat.le_of_ble_eq_true (by kernel_rfl))) (sizeV) (by kernel_rfl) ⟨by kernel_rfl, cast_blk (Kb.mid (i := 0) hw rfl 13 (vcA v).toList) (by rfl)⟩)
          | 5, _ =>
            have g3 : (DesA4 x u v c b1 b2 b3 b4 Lx).tmps[3]?.getD undef = .pointer (some ⟨b1, 0, none⟩) := by kernel_rfl
            have e3 : (DesA4 x u v c b1 b2 b3 b4 Lx).eval (.tmp 3) = .pointer (some ⟨b1, 0, none⟩) := by kernel_rfl
            exact i_val rfl (.pointer (some ⟨b1, 17, none⟩)) w' (by rfl) (by go_simp) ⟨by kernel_rfl, hw⟩
          | 6, _ =>
            have h5 := haft 5 (by decide)
            have e30 : (DesA4 x u v c b1 b2 b3 b4 Lx).eval (.tmp 30) = .pointer (some ⟨b1, 17, none⟩) := by show (bif Lx 5 then _ else _) = _; rw [h5]; rfl
            have g30 : (DesA4 x u v c b1 b2 b3 b4 Lx).tmps[30]?.getD undef = .pointer (some ⟨b1, 17, none⟩) := by show (bif Lx 5 then _ else _) = _; rw [h5]; rfl
            exact i_wp rfl (by rfl) (wp_store_cell 3 _ _ rfl ⟨b1, 17, none⟩ (.int .i64 0) e30 rfl (kb_run_set hw (i := 0) rfl 3 17 (.int .i64 (bif Lx 6 then 0 else x.p17)) (.int .i64 0) (by rfl) (fun W h1 h2 => by go_simp)) ⟨by kernel_rfl, cast_blk (Kb.set (i := 0) hw rfl 17 (.int .i64 0)) (by rfl)⟩)
          | 7, _ =>
            have g3 : (DesA4 x u v c b1 b2 b3 b4 Lx).tmps[3]?.getD undef = .pointer (some ⟨b1, 0, none⟩) := by kernel_rfl
            have e3 : (DesA4 x u v c b1 b2 b3 b4 Lx).eval (.tmp 3) = .pointer (some ⟨b1, 0, none⟩) := by kernel_rfl
            exact i_val rfl (.pointer (some ⟨b1, 18, none⟩)) w' (by rfl) (by go_simp) ⟨by kernel_rfl, hw⟩
          | 8, _ =>
            have h7 := haft 7 (by decide)
            have e31 : (DesA4 x u v c b1 b2 b3 b4 Lx).eval (.tmp 31) = .pointer (some ⟨b1, 18, none⟩) := by show (bif Lx 7 then _ else _) = _; rw [h7]; rfl
            have g31 : (DesA4 x u v c b1 b2 b3 b4 Lx).tmps[31]?.getD undef = .pointer (some ⟨b1, 18, none⟩) := by show (bif Lx 7 then _ else _) = _; rw [h7]; rfl
            exact i_wp rfl (by rfl) (wp_store_cell 3 _ _ rfl ⟨b1, 18, none⟩ (.int .i64 0) e31 rfl (kb_run_set hw (i := 0) rfl 3 18 (.int .i64 (bif Lx 8 then 0 else x.p18)) (.int .i64 0) (by rfl) (fun W h1 h2 => by go_simp)) ⟨by kernel_rfl, cast_blk (Kb.set (i := 0) hw rfl 18 (.int .i64 0)) (by rfl)⟩)
          | 9, _ =>
            have g3 : (DesA4 x u v c b1 b2 b3 b4 Lx).tmps[3]?.getD undef = .pointer (some ⟨b1, 0, none⟩) := by kernel_rfl
            have e3 : (DesA4 x u v c b1 b2 b3 b4 Lx).eval (.tmp 3) = .pointer (some ⟨b1, 0, none⟩) := by kernel_rfl
            exact i_val rfl (.pointer (some ⟨b1, 9, none⟩)) w' (by rfl) (by go_simp) ⟨by kernel_rfl, hw⟩
          | 10, _ =>
            have h9 := haft 9 (by decide)
            have e32 : (DesA4 x u v c b1 b2 b3 b4 Lx).eval (.tmp 32) = .pointer (some ⟨b1, 9, none⟩) := by show (bif Lx 9 then _ else _) = _; rw [h9]; rfl
            have g32 : (DesA4 x u v c b1 b2 b3 b4 Lx).tmps[32]?.getD undef = .pointer (some ⟨b1, 9, none⟩) := by show (bif Lx 9 then _ else _) = _; rw [h9]; rfl
            exact i_wp rfl (by rfl) (wp_store_cell 4 _ _ rfl ⟨b1, 9, none⟩ (.bool false) e32 rfl (kb_run_set hw (i := 0) rfl 4 9 (.bool (bif Lx 10 then false else x.p9)) (.bool false) (by rfl) (fun W h1 h2 => by go_simp)) ⟨by kernel_rfl, cast_blk (Kb.set (i := 0) hw rfl 9 (.bool false)) (by rfl)⟩)
          | k + 11, h =>
            exfalso
            have h2 : k + 11 < 11 := h
            omega
        intro Lx ac w6 hI hall
        obtain ⟨rfl, hw⟩ := hI
        have hfr : DesA4 x u v c b1 b2 b3 b4 Lx = { tmps := #[.agg (poA ⟨x.p0, x.p1, x.p2, x.p3, x.p4, x.p5, x.p6, x.p7, x.p8, x.p9, x.p10, x.p11, x.p12, (u.r : Nat), (u.c : Nat), (u.b : Nat), (u.p : Nat), x.p17, x.p18, x.p19, x.p20⟩), .agg (vcA v), .agg (cfA c), .pointer (some ⟨b1, 0, none⟩), .pointer (some ⟨b2, 0, none⟩), .pointer (some ⟨b3, 0, none⟩), .pointer (some ⟨b4, 0, none⟩), .bool false, .bool false, .bool true, .pointer (some ⟨b1, 10, none⟩), .int .i64 x.p10, .bool false, .bool false, .bool false, .pointer (some ⟨b1, 12, none⟩), .int .i64 x.p12, .bool true, .bool true, .bool true, undef, undef, undef, undef, .bool true, .pointer (some ⟨b1, 10, none⟩), .bool true, .agg (vcA v), .pointer (some ⟨b1, 12, none⟩), .pointer (some ⟨b1, 13, none⟩), .pointer (some ⟨b1, 17, none⟩), .pointer (some ⟨b1, 18, none⟩), .pointer (some ⟨b1, 9, none⟩), undef, undef, undef, undef, undef, undef, undef, undef, undef, undef, undef], defers := [] } := by unfold DesA4; simp only [hall 0 (by decide), hall 1 (by decide), hall 3 (by decide), hall 5 (by decide), hall 7 (by decide), hall 9 (by decide), cond_true]
        rw [hfr]
        clear hfr
        have hL2 := hall 2 (by decide)
        have hL4 := hall 4 (by decide)
        have hL6 := hall 6 (by decide)
        have hL8 := hall 8 (by decide)
        have hL10 := hall 10 (by decide)
        simp only [hL2, hL4, hL6, hL8, hL10, cond_true] at hw
        have K6 := Lib.hid (show Kb w [(b1, poA ⟨x.p0, x.p1, x.p2, x.p3, x.p4, x.p5, x.p6, x.p7, x.p8, false, 4, x.p11, 1, (v.r : Nat), (v.c : Nat), (v.b : Nat), (v.p : Nat), 0, 0, x.p19, x.p20⟩, 42), (b2, vcA v, 35), (b3, cfA c, 38), (b4, nil21, 42)] w6 from hw)
        clear hw hall hL2 hL4 hL6 hL8 hL10
        go_upto_region 6 with fail
        refine wp_region_lit ?_
        refine wv (.bool false) ?_
        (try simp only [Act.put, gA, gS, gZ, sA, sZ, sS])
        refine wpList_nil ?_
        go_upto_region 8 with fail
        refine wp_region_lit ?_
        refine wv (.agg (poA ⟨x.p0, x.p1, x.p2, x.p3, x.p4, x.p5, x.p6, x.p7, x.p8, false, 4, x.p11, 1, (v.r : Nat), (v.c : Nat), (v.b : Nat), (v.p : Nat), 0, 0, x.p19, x.p20⟩)) ?_ (hrun := kb_all K6.out 0 rfl 42 _ rfl rfl Try.underlying42 rfl (size50))
        (try simp only [Act.put, gA, gS, gZ, sA, sZ, sS])
        refine kb_call K6.out 13 #[.agg (poA ⟨x.p0, x.p1, x.p2, x.p3, x.p4, x.p5, x.p6, x.p7, x.p8, false, 4, x.p11, 1, (v.r : Nat), (v.c : Nat), (v.b : Nat), (v.p : Nat), 0, 0, x.p19, x.p20⟩)] (.bool true) (by rfl) (by go_simp) (edge_is ⟨x.p0, x.p1, x.p2, x.p3, x.p4, x.p5, x.p6, x.p7, x.p8, false, 4, x.p11, 1, (v.r : Nat), (v.c : Nat), (v.b : Nat), (v.p : Nat), 0, 0, x.p19, x.p20⟩ true HED.out w6) ?_
        intro w7 hk
        have K7 := Lib.hid (show Kb w [(b1, poA ⟨x.p0, x.p1, x.p2, x.p3, x.p4, x.p5, x.p6, x.p7, x.p8, false, 4, x.p11, 1, (v.r : Nat), (v.c : Nat), (v.b : Nat), (v.p : Nat), 0, 0, x.p19, x.p20⟩, 42), (b2, vcA v, 35), (b3, cfA c, 38), (b4, nil21, 42)] w7 from hk)
        clear hk
        (try simp only [Act.put, gA, gS, gZ, sA, sZ, sS])
        refine wpList_nil ?_
        go_upto_region 9 with fail
        refine wp_region_lit ?_
        refine wv (.pointer (some ⟨b1, 11, none⟩)) ?_
        (try simp only [Act.put, gA, gS, gZ, sA, sZ, sS])
        refine kb_set K7.out 0 rfl 3 _ _ 11 (.int .i64 2) rfl (by rfl) rfl rfl (kb_run_set K7.out (i := 0) rfl 3 11 (.int .i64 x.p11) (.int .i64 2) (by rfl) (fun W h1 h2 => by go_simp)) (poA ⟨x.p0, x.p1, x.p2, x.p3, x.p4, x.p5, x.p6, x.p7, x.p8, false, 4, 2, 1, (v.r : Nat), (v.c : Nat), (v.b : Nat), (v.p : Nat), 0, 0, x.p19, x.p20⟩) (by kernel_rfl) ?_
        intro w8 hk
        have K8 := Lib.hid (show Kb w [(b1, poA ⟨x.p0, x.p1, x.p2, x.p3, x.p4, x.p5, x.p6, x.p7, x.p8, false, 4, 2, 1, (v.r : Nat), (v.c : Nat), (v.b : Nat), (v.p : Nat), 0, 0, x.p19, x.p20⟩, 42), (b2, vcA v, 35), (b3, cfA c, 38), (b4, nil21, 42)] w8 from hk)
        clear hk
        (try simp only [Act.put, gA, gS, gZ, sA, sZ, sS])
        refine wv (.pointer (some ⟨b1, 19, none⟩)) ?_
        (try simp only [Act.put, gA, gS, gZ, sA, sZ, sS])
        refine kb_set K8.out 0 rfl 3 _ _ 19 (.int .i64 0) rfl (by rfl) rfl rfl (kb_run_set K8.out (i := 0) rfl 3 19 (.int .i64 x.p19) (.int .i64 0) (by rfl) (fun W h1 h2 => by go_simp)) (poA ⟨x.p0, x.p1, x.p2, x.p3, x.p4, x.p5, x.p6, x.p7, x.p8, false, 4, 2, 1, (v.r : Nat), (v.c : Nat), (v.b : Nat), (v.p : Nat), 0, 0, 0, x.p20⟩) (by kernel_rfl) ?_
        intro w9 hk
        have K9 := Lib.hid (show Kb w [(b1, poA ⟨x.p0, x.p1, x.p2, x.p3, x.p4, x.p5, x.p6, x.p7, x.p8, false, 4, 2, 1, (v.r : Nat), (v.c : Nat), (v.b : Nat), (v.p : Nat), 0, 0, 0, x.p20⟩, 42), (b2, vcA v, 35), (b3, cfA c, 38), (b4, nil21, 42)] w9 from hk)
        clear hk
        (try simp only [Act.put, gA, gS, gZ, sA, sZ, sS])
        refine wpList_nil ?_
        go_upto_region 10 with fail
        refine wp_region_lit ?_
        refine wv (.agg (poA ⟨x.p0, x.p1, x.p2, x.p3, x.p4, x.p5, x.p6, x.p7, x.p8, false, 4, 2, 1, (v.r : Nat), (v.c : Nat), (v.b : Nat), (v.p : Nat), 0, 0, 0, x.p20⟩)) ?_ (hrun := kb_all K9.out 0 rfl 42 _ rfl rfl Try.underlying42 rfl (size50))
        (try simp only [Act.put, gA, gS, gZ, sA, sZ, sS])
        refine wv (.bool true) ?_
        (try simp only [Act.put, gA, gS, gZ, sA, sZ, sS])
        refine kb_row K9.out 3 rfl 42 _ _ (poA ⟨x.p0, x.p1, x.p2, x.p3, x.p4, x.p5, x.p6, x.p7, x.p8, false, 4, 2, 1, (v.r : Nat), (v.c : Nat), (v.b : Nat), (v.p : Nat), 0, 0, 0, x.p20⟩) rfl rfl rfl rfl (size50) (by rfl) (po_all _) ?_
        intro w10 hk
        have K10 := Lib.hid (show Kb w [(b1, poA ⟨x.p0, x.p1, x.p2, x.p3, x.p4, x.p5, x.p6, x.p7, x.p8, false, 4, 2, 1, (v.r : Nat), (v.c : Nat), (v.b : Nat), (v.p : Nat), 0, 0, 0, x.p20⟩, 42), (b2, vcA v, 35), (b3, cfA c, 38), (b4, poA ⟨x.p0, x.p1, x.p2, x.p3, x.p4, x.p5, x.p6, x.p7, x.p8, false, 4, 2, 1, (v.r : Nat), (v.c : Nat), (v.b : Nat), (v.p : Nat), 0, 0, 0, x.p20⟩, 42)] w10 from hk)
        clear hk
        (try simp only [Act.put, gA, gS, gZ, sA, sZ, sS])
        refine wv (.bool true) ?_
        (try simp only [Act.put, gA, gS, gZ, sA, sZ, sS])
        refine wpList_nil ?_
        go_wp2_with fail
        refine bodyPost_ret (v := .tuple #[.agg (poA ⟨x.p0, x.p1, x.p2, x.p3, x.p4, x.p5, x.p6, x.p7, x.p8, false, 4, 2, 1, (v.r : Nat), (v.c : Nat), (v.b : Nat), (v.p : Nat), 0, 0, 0, x.p20⟩), .bool true]) (results_row_tmp Try.results15 _ _ b4 42 (poA ⟨x.p0, x.p1, x.p2, x.p3, x.p4, x.p5, x.p6, x.p7, x.p8, false, 4, 2, 1, (v.r : Nat), (v.c : Nat), (v.b : Nat), (v.p : Nat), 0, 0, 0, x.p20⟩) (.bool true) _ rfl rfl (K10.out.at (i := 3) rfl) Try.underlying42 rfl (po_info _)) rfl ?_
        exact ⟨rfl, K10.out.below⟩
    case pos =>
      cases he : eqV u v
      case false =>
        cases hed : edgeB x
        case false =>
          have hB : desB x u v = true := by simp [desB, hr, hi, he]
          have hP : desP x u v c.p3 = ⟨x.p0, x.p1, x.p2, x.p3, x.p4, x.p5, x.p6, x.p7, x.p8, false, 4, x.p11, 1, (v.r : Nat), (v.c : Nat), (v.b : Nat), (v.p : Nat), 0, 0, x.p19, x.p20⟩ := by simp [desP, desV, hB, hed, hr]
          rw [hP, hB]
          unfold poU
          have HED := Lib.hid hed
          clear hP hB hed
          have K := Lib.hid (Kb.nil w)
          go_enter Try.func15, Try.ntmps15
          go_upto_region 0 with fail
          refine wp_region_lit ?_
          refine kb_box K.out 42 (.tmp 0) (poA ⟨x.p0, x.p1, x.p2, x.p3, x.p4, x.p5, x.p6, x.p7, x.p8, x.p9, x.p10, x.p11, x.p12, (u.r : Nat), (u.c : Nat), (u.b : Nat), (u.p : Nat), x.p17, x.p18, x.p19, x.p20⟩) rfl rfl (by rfl) ?_
          intro b1 w1 hb1 hk
          have K1 := Lib.hid (show Kb w [(b1, poA ⟨x.p0, x.p1, x.p2, x.p3, x.p4, x.p5, x.p6, x.p7, x.p8, x.p9, x.p10, x.p11, x.p12, (u.r : Nat), (u.c : Nat), (u.b : Nat), (u.p : Nat), x.p17, x.p18, x.p19, x.p20⟩, 42)] w1 from hk)
          clear hk hb1
          (try simp only [Act.put, gA, gS, gZ, sA, sZ, sS])
          refine kb_box K1.out 35 (.tmp 1) (vcA v) rfl rfl (by rfl) ?_
          intro b2 w2 hb2 hk
          have K2 := Lib.hid (show Kb w [(b1, poA ⟨x.p0, x.p1, x.p2, x.p3, x.p4, x.p5, x.p6, x.p7, x.p8, x.p9, x.p10, x.p11, x.p12, (u.r : Nat), (u.c : Nat), (u.b : Nat), (u.p : Nat), x.p17, x.p18, x.p19, x.p20⟩, 42), (b2, vcA v, 35)] w2 from hk)
          clear hk hb2
          (try simp only [Act.put, gA, gS, gZ, sA, sZ, sS])
          refine kb_box K2.out 38 (.tmp 2) (cfA c) rfl rfl (by rfl) ?_
          intro b3 w3 hb3 hk
          have K3 := Lib.hid (show Kb w [(b1, poA ⟨x.p0, x.p1, x.p2, x.p3, x.p4, x.p5, x.p6, x.p7, x.p8, x.p9, x.p10, x.p11, x.p12, (u.r : Nat), (u.c : Nat), (u.b : Nat), (u.p : Nat), x.p17, x.p18, x.p19, x.p20⟩, 42), (b2, vcA v, 35), (b3, cfA c, 38)] w3 from hk)
          clear hk hb3
          (try simp only [Act.put, gA, gS, gZ, sA, sZ, sS])
          refine kb_alloc K3.out 42 (nil21) rfl z50 (by rfl) ?_
          intro b4 w4 hb4 hk
          have K4 := Lib.hid (show Kb w [(b1, poA ⟨x.p0, x.p1, x.p2, x.p3, x.p4, x.p5, x.p6, x.p7, x.p8, x.p9, x.p10, x.p11, x.p12, (u.r : Nat), (u.c : Nat), (u.b : Nat), (u.p : Nat), x.p17, x.p18, x.p19, x.p20⟩, 42), (b2, vcA v, 35), (b3, cfA c, 38), (b4, nil21, 42)] w4 from hk)
          clear hk hb4
          (try simp only [Act.put, gA, gS, gZ, sA, sZ, sS])
          refine wv (.bool false) ?_
          (try simp only [Act.put, gA, gS, gZ, sA, sZ, sS])
          refine wpList_nil ?_
          go_upto_region 1 with fail
          refine wp_region_lit ?_
          refine wv (.pointer (some ⟨b1, 10, none⟩)) ?_
          (try simp only [Act.put, gA, gS, gZ, sA, sZ, sS])
          refine wv (.int .i64 x.p10) ?_ (hrun := by have q : w4.cell? ⟨b1, 10, none⟩ = some (.int .i64 x.p10) := K4.out.cell (i := 0) rfl (by rfl); go_simp)
          (try simp only [Act.put, gA, gS, gZ, sA, sZ, sS])
          refine wv (.bool false) ?_ (hrun := by have q := hr; go_simp)
          (try simp only [Act.put, gA, gS, gZ, sA, sZ, sS])
          refine wv (.bool false) ?_
          (try simp only [Act.put, gA, gS, gZ, sA, sZ, sS])
          refine wpList_nil ?_
          go_upto_region 2 with fail
          refine wp_region_lit ?_
          refine wv (.bool false) ?_
          (try simp only [Act.put, gA, gS, gZ, sA, sZ, sS])
          refine wv (.bool false) ?_
          (try simp only [Act.put, gA, gS, gZ, sA, sZ, sS])
          refine wv (.pointer (some ⟨b1, 12, none⟩)) ?_
          (try simp only [Act.put, gA, gS, gZ, sA, sZ, sS])
          refine wv (.int .i64 x.p12) ?_ (hrun := by have q : w4.cell? ⟨b1, 12, none⟩ = some (.int .i64 x.p12) := K4.out.cell (i := 0) rfl (by rfl); go_simp)
          (try simp only [Act.put, gA, gS, gZ, sA, sZ, sS])
          refine wv (.bool false) ?_ (hrun := by have q := hi; go_simp)
          (try simp only [Act.put, gA, gS, gZ, sA, sZ, sS])
          refine wv (.bool false) ?_ (hrun := run_pick_no (.tmp 14) (.const (.bool true)) (.tmp 17) _ rfl rfl rfl)
          (try simp only [Act.put, gA, gS, gZ, sA, sZ, sS])
          refine wv (.bool false) ?_
          (try simp only [Act.put, gA, gS, gZ, sA, sZ, sS])
          refine wv (.pointer (some ⟨b1, 13, none⟩)) ?_
          (try simp only [Act.put, gA, gS, gZ, sA, sZ, sS])
          refine wv (.agg (#[.int .u64 (u.r : Nat), .int .u32 (u.c : Nat), .int .u64 (u.b : Nat), .int .u16 (u.p : Nat)])) ?_ (hrun := kb_part K4.out 0 rfl 35 _ 13 (#[.int .u64 (u.r : Nat), .int .u32 (u.c : Nat), .int .u64 (u.b : Nat), .int .u16 (u.p : Nat)]).toList rfl rfl (part_of (by kernel_rfl)) Try.underlying35 rfl (sizeV))
          (try simp only [Act.put, gA, gS, gZ, sA, sZ, sS])
          refine wv (.agg (vcA v)) ?_ (hrun := kb_all K4.out 1 rfl 35 _ rfl rfl Try.underlying35 rfl (sizeV))
          (try simp only [Act.put, gA, gS, gZ, sA, sZ, sS])
          refine wv (.bool true) ?_ (hrun := by have q := CE.out; rw [he] at q; go_simp)
          (try simp only [Act.put, gA, gS, gZ, sA, sZ, sS])
          refine wv (.bool true) ?_ (hrun := run_pick_no (.tmp 19) (.const (.bool true)) (.tmp 23) _ rfl rfl rfl)
          (try simp only [Act.put, gA, gS, gZ, sA, sZ, sS])
          refine wv (.bool true) ?_
          (try simp only [Act.put, gA, gS, gZ, sA, sZ, sS])
          refine wpList_nil ?_
          go_upto_region 3 with fail
          refine wp_region_lit ?_
          refine wv (.pointer (some ⟨b1, 10, none⟩)) ?_
          (try simp only [Act.put, gA, gS, gZ, sA, sZ, sS])
          refine kb_set K4.out 0 rfl 3 _ _ 10 (.int .i64 4) rfl (by rfl) rfl rfl (kb_run_set K4.out (i := 0) rfl 3 10 (.int .i64 x.p10) (.int .i64 4) (by rfl) (fun W h1 h2 => by go_simp)) (poA ⟨x.p0, x.p1, x.p2, x.p3, x.p4, x.p5, x.p6, x.p7, x.p8, x.p9, 4, x.p11, x.p12, (u.r : Nat), (u.c : Nat), (u.b : Nat), (u.p : Nat), x.p17, x.p18, x.p19, x.p20⟩) (by kernel_rfl) ?_
          intro w5 hk
          have K5 := Lib.hid (show Kb w [(b1, poA ⟨x.p0, x.p1, x.p2, x.p3, x.p4, x.p5, x.p6, x.p7, x.p8, x.p9, 4, x.p11, x.p12, (u.r : Nat), (u.c : Nat), (u.b : Nat), (u.p : Nat), x.p17, x.p18, x.p19, x.p20⟩, 42), (b2, vcA v, 35), (b3, cfA c, 38), (b4, nil21, 42)] w5 from hk)
          clear hk
          (try simp only [Act.put, gA, gS, gZ, sA, sZ, sS])
          refine wpList_nil ?_
          go_upto_region 4 with fail
          refine wp_region_lit ?_
          refine wv (.bool true) ?_
          (try simp only [Act.put, gA, gS, gZ, sA, sZ, sS])
          refine wpList_nil ?_
          go_upto_region 5 with fail
          refine wp_region_inv (I := fun L ac w' => ac = DesA5 x u v c b1 b2 b3 b4 L ∧ Kb w [(b1, poA ⟨x.p0, x.p1, x.p2, x.p3, x.p4, x.p5, x.p6, x.p7, x.p8, (bif L 10 then false else x.p9), 4, x.p11, (bif L 2 then 1 else x.p12), (bif L 4 then (v.r : Nat) else (u.r : Nat)), (bif L 4 then (v.c : Nat) else (u.c : Nat)), (bif L 4 then (v.b : Nat) else (u.b : Nat)), (bif L 4 then (v.p : Nat) else (u.p : Nat)), (bif L 6 then 0 else x.p17), (bif L 8 then 0 else x.p18), x.p19, x.p20⟩, 42), (b2, vcA v, 35), (b3, cfA c, 38), (b4, nil21, 42)] w') (by kernel_rfl) (by kernel_rfl) ⟨by kernel_rfl, K5.out.drew⟩ ?_ ?_
          · intro i hi Lx ac w' hI hL haft
            obtain ⟨rfl, hw⟩ := hI
            match i, hi with
            | 0, _ =>
              have g4 : (DesA5 x u v c b1 b2 b3 b4 Lx).tmps[4]?.getD undef = .pointer (some ⟨b2, 0, none⟩) := by kernel_rfl
              have e4 : (DesA5 x u v c b1 b2 b3 b4 Lx).eval (.tmp 4) = .pointer (some ⟨b2, 0, none⟩) := by kernel_rfl
              exact i_val rfl (.agg (vcA v)) w' (by rfl) (kb_all hw 1 rfl 35 _ rfl e4 Try.underlying35 rfl (sizeV)) ⟨by kernel_rfl, hw⟩
            | 1, _ =>
              have g3 : (DesA5 x u v c b1 b2 b3 b4 Lx).tmps[3]?.getD undef = .pointer (some ⟨b1, 0, none⟩) := by kernel_rfl
              have e3 : (DesA5 x u v c b1 b2 b3 b4 Lx).eval (.tmp 3) = .pointer (some ⟨b1, 0, none⟩) := by kernel_rfl
              exact i_val rfl (.pointer (some ⟨b1, 12, none⟩)) w' (by rfl) (by go_simp) ⟨by kernel_rfl, hw⟩
            | 2, _ =>
              have h1 := haft 1 (by decide)
              have e28 : (DesA5 x u v c b1 b2 b3 b4 Lx).eval (.tmp 28) = .pointer (some ⟨b1, 12, none⟩) := by show (bif Lx 1 then _ else _) = _; rw [h1]; rfl
              have g28 : (DesA5 x u v c b1 b2 b3 b4 Lx).tmps[28]?.getD undef = .pointer (some ⟨b1, 12, none⟩) := by show (bif Lx 1 then _ else _) = _; rw [h1]; rfl
              exact i_wp rfl (by rfl) (wp_store_cell 3 _ _ rfl ⟨b1, 12, none⟩ (.int .i64 1) e28 rfl (kb_run_set hw (i := 0) rfl 3 12 (.int .i64 (bif Lx 2 then 1 else x.p12)) (.int .i64 1) (by rfl) (fun W h1 h2 => by go_simp)) ⟨by kernel_rfl, cast_blk (Kb.set (i := 0) hw rfl 12 (.int .i64 1)) (by rfl)⟩)
            | 3, _ =>
              have g3 : (DesA5 x u v c b1 b2 b3 b4 Lx).tmps[3]?.getD undef = .pointer (some ⟨b1, 0, none⟩) := by kernel_rfl
              have e3 : (DesA5 x u v c b1 b2 b3 b4 Lx).eval (.tmp 3) = .pointer (some ⟨b1, 0, none⟩) := by kernel_rfl
              exact i_val rfl (.pointer (some ⟨b1, 13, none⟩)) w' (by rfl) (by go_simp) ⟨by kernel_rfl, hw⟩
            | 4, _ =>
              have h0 := haft 0 (by decide)
              have e27 : (DesA5 x u v c b1 b2 b3 b4 Lx).eval (.tmp 27) = .agg (vcA v) := by show (bif Lx 0 then _ else _) = _; rw [h0]; rfl
              have g27 : (DesA5 x u v c b1 b2 b3 b4 Lx).tmps[27]?.getD undef = .agg (vcA v) := by show (bif Lx 0 then _ else _) = _; rw [h0]; rfl
              have h3 := haft 3 (by decide)
              have e29 : (DesA5 x u v c b1 b2 b3 b4 Lx).eval (.tmp 29) = .pointer (some ⟨b1, 13, none⟩) := by show (bif Lx 3 then _ else _) = _; rw [h3]; rfl
              have g29 : (DesA5 x u v c b1 b2 b3 b4 Lx).tmps[29]?.getD undef = .pointer (some ⟨b1, 13, none⟩) := by show (bif Lx 3 then _ else _) = _; rw [h3]; rfl
              exact i_wp rfl (by rfl) (wp_store_mid 35 _ _ rfl b1 13 (vcA v) e29 e27 ((Kb.at (i := 0) hw rfl).thereN 13 4 (Nat.le_of_ble_eq_true (by kernel_rfl))) (sizeV) (by kernel_rfl) ⟨by kernel_rfl, cast_blk (Kb.mid (i := 0) hw rfl 13 (vcA v).toList) (by rfl)⟩)
            | 5, _ =>
              have g3 : (DesA5 x u v c b1 b2 b3 b4 Lx).tmps[3]?.getD undef = .pointer (some ⟨b1, 0, none⟩) := by kernel_rfl
              have e3 : (DesA5 x u v c b1 b2 b3 b4 Lx).eval (.tmp 3) = .pointer (some ⟨b1, 0, none⟩) := by kernel_rfl
              exact i_val rfl (.pointer (some ⟨b1, 17, none⟩)) w' (by rfl) (by go_simp) ⟨by kernel_rfl, hw⟩
            | 6, _ =>
              have h5 := haft 5 (by decide)
              have e30 : (DesA5 x u v c b1 b2 b3 b4 Lx).eval (.tmp 30) = .pointer (some ⟨b1, 17, none⟩) := by show (bif Lx 5 then _ else _) = _; rw [h5]; rfl
              have g30 : (DesA5 x u v c b1 b2 b3 b4 Lx).tmps[30]?.getD undef = .pointer (some ⟨b1, 17, none⟩) := by show (bif Lx 5 then _ else _) = _; rw [h5]; rfl
              exact i_wp rfl (by rfl) (wp_store_cell 3 _ _ rfl ⟨b1, 17, none⟩ (.int .i64 0) e30 rfl (kb_run_set hw (i := 0) rfl 3 17 (.int .i64 (bif Lx 6 then 0 else x.p17)) (.int .i64 0) (by rfl) (fun W h1 h2 => by go_simp)) ⟨by kernel_rfl, cast_blk (Kb.set (i := 0) hw rfl 17 (.int .i64 0)) (by rfl)⟩)
            | 7, _ =>
              have g3 : (DesA5 x u v c b1 b2 b3 b4 Lx).tmps[3]?.getD undef = .pointer (some ⟨b1, 0, none⟩) := by kernel_rfl
              have e3 : (DesA5 x u v c b1 b2 b3 b4 Lx).eval (.tmp 3) = .pointer (some ⟨b1, 0, none⟩) := by kernel_rfl
              exact i_val rfl (.pointer (some ⟨b1, 18, none⟩)) w' (by rfl) (by go_simp) ⟨by kernel_rfl, hw⟩
            | 8, _ =>
              have h7 := haft 7 (by decide)
              have e31 : (DesA5 x u v c b1 b2 b3 b4 Lx).eval (.tmp 31) = .pointer (some ⟨b1, 18, none⟩) := by show (bif Lx 7 then _ else _) = _; rw [h7]; rfl
              have g31 : (DesA5 x u v c b1 b2 b3 b4 Lx).tmps[31]?.getD undef = .pointer (some ⟨b1, 18, none⟩) := by show (bif Lx 7 then _ else _) = _; rw [h7]; rfl
              exact i_wp rfl (by rfl) (wp_store_cell 3 _ _ rfl ⟨b1, 18, none⟩ (.int .i64 0) e31 rfl (kb_run_set hw (i := 0) rfl 3 18 (.int .i64 (bif Lx 8 then 0 else x.p18)) (.int .i64 0) (by rfl) (fun W h1 h2 => by go_simp)) ⟨by kernel_rfl, cast_blk (Kb.set (i := 0) hw rfl 18 (.int .i64 0)) (by rfl)⟩)
            | 9, _ =>
              have g3 : (DesA5 x u v c b1 b2 b3 b4 Lx).tmps[3]?.getD undef = .pointer (some ⟨b1, 0, none⟩) := by kernel_rfl
              have e3 : (DesA5 x u v c b1 b2 b3 b4 Lx).eval (.tmp 3) = .pointer (some ⟨b1, 0, none⟩) := by kernel_rfl
              exact i_val rfl (.pointer (some ⟨b1, 9, none⟩)) w' (by rfl) (by go_simp) ⟨by kernel_rfl, hw⟩
            | 10, _ =>
              have h9 := haft 9 (by decide)
              have e32 : (DesA5 x u v c b1 b2 b3 b4 Lx).eval (.tmp 32) = .pointer (some ⟨b1, 9, none⟩) := by show (bif Lx 9 then _ else _) = _; rw [h9]; rfl
              have g32 : (DesA5 x u v c b1 b2 b3 b4 Lx).tmps[32]?.getD undef = .pointer (some ⟨b1, 9, none⟩) := by show (bif Lx 9 then _ else _) = _; rw [h9]; rfl
              exact i_wp rfl (by rfl) (wp_store_cell 4 _ _ rfl ⟨b1, 9, none⟩ (.bool false) e32 rfl (kb_run_set hw (i := 0) rfl 4 9 (.bool (bif Lx 10 then false else x.p9)) (.bool false) (by rfl) (fun W h1 h2 => by go_simp)) ⟨by kernel_rfl, cast_blk (Kb.set (i := 0) hw rfl 9 (.bool false)) (by rfl)⟩)
            | k + 11, h =>
              exfalso
              have h2 : k + 11 < 11 := h
              omega
          intro Lx ac w6 hI hall
          obtain ⟨rfl, hw⟩ := hI
          have hfr : DesA5 x u v c b1 b2 b3 b4 Lx = { tmps := #[.agg (poA ⟨x.p0, x.p1, x.p2, x.p3, x.p4, x.p5, x.p6, x.p7, x.p8, x.p9, x.p10, x.p11, x.p12, (u.r : Nat), (u.c : Nat), (u.b : Nat), (u.p : Nat), x.p17, x.p18, x.p19, x.p20⟩), .agg (vcA v), .agg (cfA c), .pointer (some ⟨b1, 0, none⟩), .pointer (some ⟨b2, 0, none⟩), .pointer (some ⟨b3, 0, none⟩), .pointer (some ⟨b4, 0, none⟩), .bool false, .bool false, .bool true, .pointer (some ⟨b1, 10, none⟩), .int .i64 x.p10, .bool false, .bool false, .bool false, .pointer (some ⟨b1, 12, none⟩), .int .i64 x.p12, .bool false, .bool false, .bool false, .pointer (some ⟨b1, 13, none⟩), .agg (#[.int .u64 (u.r : Nat), .int .u32 (u.c : Nat), .int .u64 (u.b : Nat), .int .u16 (u.p : Nat)]), .agg (vcA v), .bool true, .bool true, .pointer (some ⟨b1, 10, none⟩), .bool true, .agg (vcA v), .pointer (some ⟨b1, 12, none⟩), .pointer (some ⟨b1, 13, none⟩), .pointer (some ⟨b1, 17, none⟩), .pointer (some ⟨b1, 18, none⟩), .pointer (some ⟨b1, 9, none⟩), undef, undef, undef, undef, undef, undef, undef, undef, undef, undef, undef], defers := [] } := by unfold DesA5; simp only [hall 0 (by decide), hall 1 (by decide), hall 3 (by decide), hall 5 (by decide), hall 7 (by decide), hall 9 (by decide), cond_true]
          rw [hfr]
          clear hfr
          have hL2 := hall 2 (by decide)
          have hL4 := hall 4 (by decide)
          have hL6 := hall 6 (by decide)
          have hL8 := hall 8 (by decide)
          have hL10 := hall 10 (by decide)
          simp only [hL2, hL4, hL6, hL8, hL10, cond_true] at hw
          have K6 := Lib.hid (show Kb w [(b1, poA ⟨x.p0, x.p1, x.p2, x.p3, x.p4, x.p5, x.p6, x.p7, x.p8, false, 4, x.p11, 1, (v.r : Nat), (v.c : Nat), (v.b : Nat), (v.p : Nat), 0, 0, x.p19, x.p20⟩, 42), (b2, vcA v, 35), (b3, cfA c, 38), (b4, nil21, 42)] w6 from hw)
          clear hw hall hL2 hL4 hL6 hL8 hL10
          go_upto_region 6 with fail
          refine wp_region_lit ?_
          refine wv (.bool false) ?_
          (try simp only [Act.put, gA, gS, gZ, sA, sZ, sS])
          refine wpList_nil ?_
          go_upto_region 8 with fail
          refine wp_region_lit ?_
          refine wv (.agg (poA ⟨x.p0, x.p1, x.p2, x.p3, x.p4, x.p5, x.p6, x.p7, x.p8, false, 4, x.p11, 1, (v.r : Nat), (v.c : Nat), (v.b : Nat), (v.p : Nat), 0, 0, x.p19, x.p20⟩)) ?_ (hrun := kb_all K6.out 0 rfl 42 _ rfl rfl Try.underlying42 rfl (size50))
          (try simp only [Act.put, gA, gS, gZ, sA, sZ, sS])
          refine kb_call K6.out 13 #[.agg (poA ⟨x.p0, x.p1, x.p2, x.p3, x.p4, x.p5, x.p6, x.p7, x.p8, false, 4, x.p11, 1, (v.r : Nat), (v.c : Nat), (v.b : Nat), (v.p : Nat), 0, 0, x.p19, x.p20⟩)] (.bool false) (by rfl) (by go_simp) (edge_is ⟨x.p0, x.p1, x.p2, x.p3, x.p4, x.p5, x.p6, x.p7, x.p8, false, 4, x.p11, 1, (v.r : Nat), (v.c : Nat), (v.b : Nat), (v.p : Nat), 0, 0, x.p19, x.p20⟩ false HED.out w6) ?_
          intro w7 hk
          have K7 := Lib.hid (show Kb w [(b1, poA ⟨x.p0, x.p1, x.p2, x.p3, x.p4, x.p5, x.p6, x.p7, x.p8, false, 4, x.p11, 1, (v.r : Nat), (v.c : Nat), (v.b : Nat), (v.p : Nat), 0, 0, x.p19, x.p20⟩, 42), (b2, vcA v, 35), (b3, cfA c, 38), (b4, nil21, 42)] w7 from hk)
          clear hk
          (try simp only [Act.put, gA, gS, gZ, sA, sZ, sS])
          refine wpList_nil ?_
          go_upto_region 10 with fail
          refine wp_region_lit ?_
          refine wv (.agg (poA ⟨x.p0, x.p1, x.p2, x.p3, x.p4, x.p5, x.p6, x.p7, x.p8, false, 4, x.p11, 1, (v.r : Nat), (v.c : Nat), (v.b : Nat), (v.p : Nat), 0, 0, x.p19, x.p20⟩)) ?_ (hrun := kb_all K7.out 0 rfl 42 _ rfl rfl Try.underlying42 rfl (size50))
          (try simp only [Act.put, gA, gS, gZ, sA, sZ, sS])
          refine wv (.bool true) ?_
          (try simp only [Act.put, gA, gS, gZ, sA, sZ, sS])
          refine kb_row K7.out 3 rfl 42 _ _ (poA ⟨x.p0, x.p1, x.p2, x.p3, x.p4, x.p5, x.p6, x.p7, x.p8, false, 4, x.p11, 1, (v.r : Nat), (v.c : Nat), (v.b : Nat), (v.p : Nat), 0, 0, x.p19, x.p20⟩) rfl rfl rfl rfl (size50) (by rfl) (po_all _) ?_
          intro w8 hk
          have K8 := Lib.hid (show Kb w [(b1, poA ⟨x.p0, x.p1, x.p2, x.p3, x.p4, x.p5, x.p6, x.p7, x.p8, false, 4, x.p11, 1, (v.r : Nat), (v.c : Nat), (v.b : Nat), (v.p : Nat), 0, 0, x.p19, x.p20⟩, 42), (b2, vcA v, 35), (b3, cfA c, 38), (b4, poA ⟨x.p0, x.p1, x.p2, x.p3, x.p4, x.p5, x.p6, x.p7, x.p8, false, 4, x.p11, 1, (v.r : Nat), (v.c : Nat), (v.b : Nat), (v.p : Nat), 0, 0, x.p19, x.p20⟩, 42)] w8 from hk)
          clear hk
          (try simp only [Act.put, gA, gS, gZ, sA, sZ, sS])
          refine wv (.bool true) ?_
          (try simp only [Act.put, gA, gS, gZ, sA, sZ, sS])
          refine wpList_nil ?_
          go_wp2_with fail
          refine bodyPost_ret (v := .tuple #[.agg (poA ⟨x.p0, x.p1, x.p2, x.p3, x.p4, x.p5, x.p6, x.p7, x.p8, false, 4, x.p11, 1, (v.r : Nat), (v.c : Nat), (v.b : Nat), (v.p : Nat), 0, 0, x.p19, x.p20⟩), .bool true]) (results_row_tmp Try.results15 _ _ b4 42 (poA ⟨x.p0, x.p1, x.p2, x.p3, x.p4, x.p5, x.p6, x.p7, x.p8, false, 4, x.p11, 1, (v.r : Nat), (v.c : Nat), (v.b : Nat), (v.p : Nat), 0, 0, x.p19, x.p20⟩) (.bool true) _ rfl rfl (K8.out.at (i := 3) rfl) Try.underlying42 rfl (po_info _)) rfl ?_
          exact ⟨rfl, K8.out.below⟩
        case true =>
          have hB : desB x u v = true := by simp [desB, hr, hi, he]
          have hP : desP x u v c.p3 = ⟨x.p0, x.p1, x.p2, x.p3, x.p4, x.p5, x.p6, x.p7, x.p8, false, 4, 2, 1, (v.r : Nat), (v.c : Nat), (v.b : Nat), (v.p : Nat), 0, 0, 0, x.p20⟩ := by simp [desP, desV, hB, hed, hr]
          rw [hP, hB]
          unfold poU
          have HED := Lib.hid hed
          clear hP hB hed
          have K := Lib.hid (Kb.nil w)
          go_enter Try.func15, Try.ntmps15
          go_upto_region 0 with fail
          refine wp_region_lit ?_
          refine kb_box K.out 42 (.tmp 0) (poA ⟨x.p0, x.p1, x.p2, x.p3, x.p4, x.p5, x.p6, x.p7, x.p8, x.p9, x.p10, x.p11, x.p12, (u.r : Nat), (u.c : Nat), (u.b : Nat), (u.p : Nat), x.p17, x.p18, x.p19, x.p20⟩) rfl rfl (by rfl) ?_
          intro b1 w1 hb1 hk
          have K1 := Lib.hid (show Kb w [(b1, poA ⟨x.p0, x.p1, x.p2, x.p3, x.p4, x.p5, x.p6, x.p7, x.p8, x.p9, x.p10, x.p11, x.p12, (u.r : Nat), (u.c : Nat), (u.b : Nat), (u.p : Nat), x.p17, x.p18, x.p19, x.p20⟩, 42)] w1 from hk)
          clear hk hb1
          (try simp only [Act.put, gA, gS, gZ, sA, sZ, sS])
          refine kb_box K1.out 35 (.tmp 1) (vcA v) rfl rfl (by rfl) ?_
          intro b2 w2 hb2 hk
          have K2 := Lib.hid (show Kb w [(b1, poA ⟨x.p0, x.p1, x.p2, x.p3, x.p4, x.p5, x.p6, x.p7, x.p8, x.p9, x.p10, x.p11, x.p12, (u.r : Nat), (u.c : Nat), (u.b : Nat), (u.p : Nat), x.p17, x.p18, x.p19, x.p20⟩, 42), (b2, vcA v, 35)] w2 from hk)
          clear hk hb2
          (try simp only [Act.put, gA, gS, gZ, sA, sZ, sS])
          refine kb_box K2.out 38 (.tmp 2) (cfA c) rfl rfl (by rfl) ?_
          intro b3 w3 hb3 hk
          have K3 := Lib.hid (show Kb w [(b1, poA ⟨x.p0, x.p1, x.p2, x.p3, x.p4, x.p5, x.p6, x.p7, x.p8, x.p9, x.p10, x.p11, x.p12, (u.r : Nat), (u.c : Nat), (u.b : Nat), (u.p : Nat), x.p17, x.p18, x.p19, x.p20⟩, 42), (b2, vcA v, 35), (b3, cfA c, 38)] w3 from hk)
          clear hk hb3
          (try simp only [Act.put, gA, gS, gZ, sA, sZ, sS])
          refine kb_alloc K3.out 42 (nil21) rfl z50 (by rfl) ?_
          intro b4 w4 hb4 hk
          have K4 := Lib.hid (show Kb w [(b1, poA ⟨x.p0, x.p1, x.p2, x.p3, x.p4, x.p5, x.p6, x.p7, x.p8, x.p9, x.p10, x.p11, x.p12, (u.r : Nat), (u.c : Nat), (u.b : Nat), (u.p : Nat), x.p17, x.p18, x.p19, x.p20⟩, 42), (b2, vcA v, 35), (b3, cfA c, 38), (b4, nil21, 42)] w4 from hk)
          clear hk hb4
          (try simp only [Act.put, gA, gS, gZ, sA, sZ, sS])
          refine wv (.bool false) ?_
          (try simp only [Act.put, gA, gS, gZ, sA, sZ, sS])
          refine wpList_nil ?_
          go_upto_region 1 with fail
          refine wp_region_lit ?_
          refine wv (.pointer (some ⟨b1, 10, none⟩)) ?_
          (try simp only [Act.put, gA, gS, gZ, sA, sZ, sS])
          refine wv (.int .i64 x.p10) ?_ (hrun := by have q : w4.cell? ⟨b1, 10, none⟩ = some (.int .i64 x.p10) := K4.out.cell (i := 0) rfl (by rfl); go_simp)
          (try simp only [Act.put, gA, gS, gZ, sA, sZ, sS])
          refine wv (.bool false) ?_ (hrun := by have q := hr; go_simp)
          (try simp only [Act.put, gA, gS, gZ, sA, sZ, sS])
          refine wv (.bool false) ?_
          (try simp only [Act.put, gA, gS, gZ, sA, sZ, sS])
          refine wpList_nil ?_
          go_upto_region 2 with fail
          refine wp_region_lit ?_
          refine wv (.bool false) ?_
          (try simp only [Act.put, gA, gS, gZ, sA, sZ, sS])
          refine wv (.bool false) ?_
          (try simp only [Act.put, gA, gS, gZ, sA, sZ, sS])
          refine wv (.pointer (some ⟨b1, 12, none⟩)) ?_
          (try simp only [Act.put, gA, gS, gZ, sA, sZ, sS])
          refine wv (.int .i64 x.p12) ?_ (hrun := by have q : w4.cell? ⟨b1, 12, none⟩ = some (.int .i64 x.p12) := K4.out.cell (i := 0) rfl (by rfl); go_simp)
          (try simp only [Act.put, gA, gS, gZ, sA, sZ, sS])
          refine wv (.bool false) ?_ (hrun := by have q := hi; go_simp)
          (try simp only [Act.put, gA, gS, gZ, sA, sZ, sS])
          refine wv (.bool false) ?_ (hrun := run_pick_no (.tmp 14) (.const (.bool true)) (.tmp 17) _ rfl rfl rfl)
          (try simp only [Act.put, gA, gS, gZ, sA, sZ, sS])
          refine wv (.bool false) ?_
          (try simp only [Act.put, gA, gS, gZ, sA, sZ, sS])
          refine wv (.pointer (some ⟨b1, 13, none⟩)) ?_
          (try simp only [Act.put, gA, gS, gZ, sA, sZ, sS])
          refine wv (.agg (#[.int .u64 (u.r : Nat), .int .u32 (u.c : Nat), .int .u64 (u.b : Nat), .int .u16 (u.p : Nat)])) ?_ (hrun := kb_part K4.out 0 rfl 35 _ 13 (#[.int .u64 (u.r : Nat), .int .u32 (u.c : Nat), .int .u64 (u.b : Nat), .int .u16 (u.p : Nat)]).toList rfl rfl (part_of (by kernel_rfl)) Try.underlying35 rfl (sizeV))
          (try simp only [Act.put, gA, gS, gZ, sA, sZ, sS])
          refine wv (.agg (vcA v)) ?_ (hrun := kb_all K4.out 1 rfl 35 _ rfl rfl Try.underlying35 rfl (sizeV))
          (try simp only [Act.put, gA, gS, gZ, sA, sZ, sS])
          refine wv (.bool true) ?_ (hrun := by have q := CE.out; rw [he] at q; go_simp)
          (try simp only [Act.put, gA, gS, gZ, sA, sZ, sS])
          refine wv (.bool true) ?_ (hrun := run_pick_no (.tmp 19) (.const (.bool true)) (.tmp 23) _ rfl rfl rfl)
          (try simp only [Act.put, gA, gS, gZ, sA, sZ, sS])
          refine wv (.bool true) ?_
          (try simp only [Act.put, gA, gS, gZ, sA, sZ, sS])
          refine wpList_nil ?_
          go_upto_region 3 with fail
          refine wp_region_lit ?_
          refine wv (.pointer (some ⟨b1, 10, none⟩)) ?_
          (try simp only [Act.put, gA, gS, gZ, sA, sZ, sS])
          refine kb_set K4.out 0 rfl 3 _ _ 10 (.int .i64 4) rfl (by rfl) rfl rfl (kb_run_set K4.out (i := 0) rfl 3 10 (.int .i64 x.p10) (.int .i64 4) (by rfl) (fun W h1 h2 => by go_simp)) (poA ⟨x.p0, x.p1, x.p2, x.p3, x.p4, x.p5, x.p6, x.p7, x.p8, x.p9, 4, x.p11, x.p12, (u.r : Nat), (u.c : Nat), (u.b : Nat), (u.p : Nat), x.p17, x.p18, x.p19, x.p20⟩) (by kernel_rfl) ?_
          intro w5 hk
          have K5 := Lib.hid (show Kb w [(b1, poA ⟨x.p0, x.p1, x.p2, x.p3, x.p4, x.p5, x.p6, x.p7, x.p8, x.p9, 4, x.p11, x.p12, (u.r : Nat), (u.c : Nat), (u.b : Nat), (u.p : Nat), x.p17, x.p18, x.p19, x.p20⟩, 42), (b2, vcA v, 35), (b3, cfA c, 38), (b4, nil21, 42)] w5 from hk)
          clear hk
          (try simp only [Act.put, gA, gS, gZ, sA, sZ, sS])
          refine wpList_nil ?_
          go_upto_region 4 with fail
          refine wp_region_lit ?_
          refine wv (.bool true) ?_
          (try simp only [Act.put, gA, gS, gZ, sA, sZ, sS])
          refine wpList_nil ?_
          go_upto_region 5 with fail
          refine wp_region_inv (I := fun L ac w' => ac = DesA6 x u v c b1 b2 b3 b4 L ∧ Kb w [(b1, poA ⟨x.p0, x.p1, x.p2, x.p3, x.p4, x.p5, x.p6, x.p7, x.p8, (bif L 10 then false else x.p9), 4, x.p11, (bif L 2 then 1 else x.p12), (bif L 4 then (v.r : Nat) else (u.r : Nat)), (bif L 4 then (v.c : Nat) else (u.c : Nat)), (bif L 4 then (v.b : Nat) else (u.b : Nat)), (bif L 4 then (v.p : Nat) else (u.p : Nat)), (bif L 6 then 0 else x.p17), (bif L 8 then 0 else x.p18), x.p19, x.p20⟩, 42), (b2, vcA v, 35), (b3, cfA c, 38), (b4, nil21, 42)] w') (by kernel_rfl) (by kernel_rfl) ⟨by kernel_rfl, K5.out.drew⟩ ?_ ?_
          · intro i hi Lx ac w' hI hL haft
            obtain ⟨rfl, hw⟩ := hI
            match i, hi with
            | 0, _ =>
              have g4 : (DesA6 x u v c b1 b2 b3 b4 Lx).tmps[4]?.getD undef = .pointer (some ⟨b2, 0, none⟩) := by kernel_rfl
              have e4 : (DesA6 x u v c b1 b2 b3 b4 Lx).eval (.tmp 4) = .pointer (some ⟨b2, 0, none⟩) := by kernel_rfl
              exact i_val rfl (.agg (vcA v)) w' (by rfl) (kb_all hw 1 rfl 35 _ rfl e4 Try.underlying35 rfl (sizeV)) ⟨by kernel_rfl, hw⟩
            | 1, _ =>
              have g3 : (DesA6 x u v c b1 b2 b3 b4 Lx).tmps[3]?.getD undef = .pointer (some ⟨b1, 0, none⟩) := by kernel_rfl
              have e3 : (DesA6 x u v c b1 b2 b3 b4 Lx).eval (.tmp 3) = .pointer (some ⟨b1, 0, none⟩) := by kernel_rfl
              exact i_val rfl (.pointer (some ⟨b1, 12, none⟩)) w' (by rfl) (by go_simp) ⟨by kernel_rfl, hw⟩
            | 2, _ =>
              have h1 := haft 1 (by decide)
              have e28 : (DesA6 x u v c b1 b2 b3 b4 Lx).eval (.tmp 28) = .pointer (some ⟨b1, 12, none⟩) := by show (bif Lx 1 then _ else _) = _; rw [h1]; rfl
              have g28 : (DesA6 x u v c b1 b2 b3 b4 Lx).tmps[28]?.getD undef = .pointer (some ⟨b1, 12, none⟩) := by show (bif Lx 1 then _ else _) = _; rw [h1]; rfl
              exact i_wp rfl (by rfl) (wp_store_cell 3 _ _ rfl ⟨b1, 12, none⟩ (.int .i64 1) e28 rfl (kb_run_set hw (i := 0) rfl 3 12 (.int .i64 (bif Lx 2 then 1 else x.p12)) (.int .i64 1) (by rfl) (fun W h1 h2 => by go_simp)) ⟨by kernel_rfl, cast_blk (Kb.set (i := 0) hw rfl 12 (.int .i64 1)) (by rfl)⟩)
            | 3, _ =>
              have g3 : (DesA6 x u v c b1 b2 b3 b4 Lx).tmps[3]?.getD undef = .pointer (some ⟨b1, 0, none⟩) := by kernel_rfl
              have e3 : (DesA6 x u v c b1 b2 b3 b4 Lx).eval (.tmp 3) = .pointer (some ⟨b1, 0, none⟩) := by kernel_rfl
              exact i_val rfl (.pointer (some ⟨b1, 13, none⟩)) w' (by rfl) (by go_simp) ⟨by kernel_rfl, hw⟩
            | 4, _ =>
              have h0 := haft 0 (by decide)
              have e27 : (DesA6 x u v c b1 b2 b3 b4 Lx).eval (.tmp 27) = .agg (vcA v) := by show (bif Lx 0 then _ else _) = _; rw [h0]; rfl
              have g27 : (DesA6 x u v c b1 b2 b3 b4 Lx).tmps[27]?.getD undef = .agg (vcA v) := by show (bif Lx 0 then _ else _) = _; rw [h0]; rfl
              have h3 := haft 3 (by decide)
              have e29 : (DesA6 x u v c b1 b2 b3 b4 Lx).eval (.tmp 29) = .pointer (some ⟨b1, 13, none⟩) := by show (bif Lx 3 then _ else _) = _; rw [h3]; rfl
              have g29 : (DesA6 x u v c b1 b2 b3 b4 Lx).tmps[29]?.getD undef = .pointer (some ⟨b1, 13, none⟩) := by show (bif Lx 3 then _ else _) = _; rw [h3]; rfl
              exact i_wp rfl (by rfl) (wp_store_mid 35 _ _ rfl b1 13 (vcA v) e29 e27 ((Kb.at (i := 0) hw rfl).thereN 13 4 (Nat.le_of_ble_eq_true (by kernel_rfl))) (sizeV) (by kernel_rfl) ⟨by kernel_rfl, cast_blk (Kb.mid (i := 0) hw rfl 13 (vcA v).toList) (by rfl)⟩)
            | 5, _ =>
              have g3 : (DesA6 x u v c b1 b2 b3 b4 Lx).tmps[3]?.getD undef = .pointer (some ⟨b1, 0, none⟩) := by kernel_rfl
              have e3 : (DesA6 x u v c b1 b2 b3 b4 Lx).eval (.tmp 3) = .pointer (some ⟨b1, 0, none⟩) := by kernel_rfl
              exact i_val rfl (.pointer (some ⟨b1, 17, none⟩)) w' (by rfl) (by go_simp) ⟨by kernel_rfl, hw⟩
            | 6, _ =>
              have h5 := haft 5 (by decide)
              have e30 : (DesA6 x u v c b1 b2 b3 b4 Lx).eval (.tmp 30) = .pointer (some ⟨b1, 17, none⟩) := by show (bif Lx 5 then _ else _) = _; rw [h5]; rfl
              have g30 : (DesA6 x u v c b1 b2 b3 b4 Lx).tmps[30]?.getD undef = .pointer (some ⟨b1, 17, none⟩) := by show (bif Lx 5 then _ else _) = _; rw [h5]; rfl
              exact i_wp rfl (by rfl) (wp_store_cell 3 _ _ rfl ⟨b1, 17, none⟩ (.int .i64 0) e30 rfl (kb_run_set hw (i := 0) rfl 3 17 (.int .i64 (bif Lx 6 then 0 else x.p17)) (.int .i64 0) (by rfl) (fun W h1 h2 => by go_simp)) ⟨by kernel_rfl, cast_blk (Kb.set (i := 0) hw rfl 17 (.int .i64 0)) (by rfl)⟩)
            | 7, _ =>
              have g3 : (DesA6 x u v c b1 b2 b3 b4 Lx).tmps[3]?.getD undef = .pointer (some ⟨b1, 0, none⟩) := by kernel_rfl
              have e3 : (DesA6 x u v c b1 b2 b3 b4 Lx).eval (.tmp 3) = .pointer (some ⟨b1, 0, none⟩) := by kernel_rfl
              exact i_val rfl (.pointer (some ⟨b1, 18, none⟩)) w' (by rfl) (by go_simp) ⟨by kernel_rfl, hw⟩
            | 8, _ =>
              have h7 := haft 7 (by decide)
              have e31 : (DesA6 x u v c b1 b2 b3 b4 Lx).eval (.tmp 31) = .pointer (some ⟨b1, 18, none⟩) := by show (bif Lx 7 then _ else _) = _; rw [h7]; rfl
              have g31 : (DesA6 x u v c b1 b2 b3 b4 Lx).tmps[31]?.getD undef = .pointer (some ⟨b1, 18, none⟩) := by show (bif Lx 7 then _ else _) = _; rw [h7]; rfl
              exact i_wp rfl (by rfl) (wp_store_cell 3 _ _ rfl ⟨b1, 18, none⟩ (.int .i64 0) e31 rfl (kb_run_set hw (i := 0) rfl 3 18 (.int .i64 (bif Lx 8 then 0 else x.p18)) (.int .i64 0) (by rfl) (fun W h1 h2 => by go_simp)) ⟨by kernel_rfl, cast_blk (Kb.set (i := 0) hw rfl 18 (.int .i64 0)) (by rfl)⟩)
            | 9, _ =>
              have g3 : (DesA6 x u v c b1 b2 b3 b4 Lx).tmps[3]?.getD undef = .pointer (some ⟨b1, 0, none⟩) := by kernel_rfl
              have e3 : (DesA6 x u v c b1 b2 b3 b4 Lx).eval (.tmp 3) = .pointer (some ⟨b1, 0, none⟩) := by kernel_rfl
              exact i_val rfl (.pointer (some ⟨b1, 9, none⟩)) w' (by rfl) (by go_simp) ⟨by kernel_rfl, hw⟩
            | 10, _ =>
              have h9 := haft 9 (by decide)
              have e32 : (DesA6 x u v c b1 b2 b3 b4 Lx).eval (.tmp 32) = .pointer (some ⟨b1, 9, none⟩) := by show (bif Lx 9 then _ else _) = _; rw [h9]; rfl
              have g32 : (DesA6 x u v c b1 b2 b3 b4 Lx).tmps[32]?.getD undef = .pointer (some ⟨b1, 9, none⟩) := by show (bif Lx 9 then _ else _) = _; rw [h9]; rfl
              exact i_wp rfl (by rfl) (wp_store_cell 4 _ _ rfl ⟨b1, 9, none⟩ (.bool false) e32 rfl (kb_run_set hw (i := 0) rfl 4 9 (.bool (bif Lx 10 then false else x.p9)) (.bool false) (by rfl) (fun W h1 h2 => by go_simp)) ⟨by kernel_rfl, cast_blk (Kb.set (i := 0) hw rfl 9 (.bool false)) (by rfl)⟩)
            | k + 11, h =>
              exfalso
              have h2 : k + 11 < 11 := h
              omega
          intro Lx ac w6 hI hall
          obtain ⟨rfl, hw⟩ := hI
          have hfr : DesA6 x u v c b1 b2 b3 b4 Lx = { tmps := #[.agg (poA ⟨x.p0, x.p1, x.p2, x.p3, x.p4, x.p5, x.p6, x.p7, x.p8, x.p9, x.p10, x.p11, x.p12, (u.r : Nat), (u.c : Nat), (u.b : Nat), (u.p : Nat), x.p17, x.p18, x.p19, x.p20⟩), .agg (vcA v), .agg (cfA c), .pointer (some ⟨b1, 0, none⟩), .pointer (some ⟨b2, 0, none⟩), .pointer (some ⟨b3, 0, none⟩), .pointer (some ⟨b4, 0, none⟩), .bool false, .bool false, .bool true, .pointer (some ⟨b1, 10, none⟩), .int .i64 x.p10, .bool false, .bool false, .bool false, .pointer (some ⟨b1, 12, none⟩), .int .i64 x.p12, .bool false, .bool false, .bool false, .pointer (some ⟨b1, 13, none⟩), .agg (#[.int .u64 (u.r : Nat), .int .u32 (u.c : Nat), .int .u64 (u.b : Nat), .int .u16 (u.p : Nat)]), .agg (vcA v), .bool true, .bool true, .pointer (some ⟨b1, 10, none⟩), .bool true, .agg (vcA v), .pointer (some ⟨b1, 12, none⟩), .pointer (some ⟨b1, 13, none⟩), .pointer (some ⟨b1, 17, none⟩), .pointer (some ⟨b1, 18, none⟩), .pointer (some ⟨b1, 9, none⟩), undef, undef, undef, undef, undef, undef, undef, undef, undef, undef, undef], defers := [] } := by unfold DesA6; simp only [hall 0 (by decide), hall 1 (by decide), hall 3 (by decide), hall 5 (by decide), hall 7 (by decide), hall 9 (by decide), cond_true]
          rw [hfr]
          clear hfr
          have hL2 := hall 2 (by decide)
          have hL4 := hall 4 (by decide)
          have hL6 := hall 6 (by decide)
          have hL8 := hall 8 (by decide)
          have hL10 := hall 10 (by decide)
          simp only [hL2, hL4, hL6, hL8, hL10, cond_true] at hw
          have K6 := Lib.hid (show Kb w [(b1, poA ⟨x.p0, x.p1, x.p2, x.p3, x.p4, x.p5, x.p6, x.p7, x.p8, false, 4, x.p11, 1, (v.r : Nat), (v.c : Nat), (v.b : Nat), (v.p : Nat), 0, 0, x.p19, x.p20⟩, 42), (b2, vcA v, 35), (b3, cfA c, 38), (b4, nil21, 42)] w6 from hw)
          clear hw hall hL2 hL4 hL6 hL8 hL10
          go_upto_region 6 with fail
          refine wp_region_lit ?_
          refine wv (.bool false) ?_
          (try simp only [Act.put, gA, gS, gZ, sA, sZ, sS])
          refine wpList_nil ?_
          go_upto_region 8 with fail
          refine wp_region_lit ?_
          refine wv (.agg (poA ⟨x.p0, x.p1, x.p2, x.p3, x.p4, x.p5, x.p6, x.p7, x.p8, false, 4, x.p11, 1, (v.r : Nat), (v.c : Nat), (v.b : Nat), (v.p : Nat), 0, 0, x.p19, x.p20⟩)) ?_ (hrun := kb_all K6.out 0 rfl 42 _ rfl rfl Try.underlying42 rfl (size50))
          (try simp only [Act.put, gA, gS, gZ, sA, sZ, sS])
          refine kb_call K6.out 13 #[.agg (poA ⟨x.p0, x.p1, x.p2, x.p3, x.p4, x.p5, x.p6, x.p7, x.p8, false, 4, x.p11, 1, (v.r : Nat), (v.c : Nat), (v.b : Nat), (v.p : Nat), 0, 0, x.p19, x.p20⟩)] (.bool true) (by rfl) (by go_simp) (edge_is ⟨x.p0, x.p1, x.p2, x.p3, x.p4, x.p5, x.p6, x.p7, x.p8, false, 4, x.p11, 1, (v.r : Nat), (v.c : Nat), (v.b : Nat), (v.p : Nat), 0, 0, x.p19, x.p20⟩ true HED.out w6) ?_
          intro w7 hk
          have K7 := Lib.hid (show Kb w [(b1, poA ⟨x.p0, x.p1, x.p2, x.p3, x.p4, x.p5, x.p6, x.p7, x.p8, false, 4, x.p11, 1, (v.r : Nat), (v.c : Nat), (v.b : Nat), (v.p : Nat), 0, 0, x.p19, x.p20⟩, 42), (b2, vcA v, 35), (b3, cfA c, 38), (b4, nil21, 42)] w7 from hk)
          clear hk
          (try simp only [Act.put, gA, gS, gZ, sA, sZ, sS])
          refine wpList_nil ?_
          go_upto_region 9 with fail
          refine wp_region_lit ?_
          refine wv (.pointer (some ⟨b1, 11, none⟩)) ?_
          (try simp only [Act.put, gA, gS, gZ, sA, sZ, sS])
          refine kb_set K7.out 0 rfl 3 _ _ 11 (.int .i64 2) rfl (by rfl) rfl rfl (kb_run_set K7.out (i := 0) rfl 3 11 (.int .i64 x.p11) (.int .i64 2) (by rfl) (fun W h1 h2 => by go_simp)) (poA ⟨x.p0, x.p1, x.p2, x.p3, x.p4, x.p5, x.p6, x.p7, x.p8, false, 4, 2, 1, (v.r : Nat), (v.c : Nat), (v.b : Nat), (v.p : Nat), 0, 0, x.p19, x.p20⟩) (by kernel_rfl) ?_
          intro w8 hk
          have K8 := Lib.hid (show Kb w [(b1, poA ⟨x.p0, x.p1, x.p2, x.p3, x.p4, x.p5, x.p6, x.p7, x.p8, false, 4, 2, 1, (v.r : Nat), (v.c : Nat), (v.b : Nat), (v.p : Nat), 0, 0, x.p19, x.p20⟩, 42), (b2, vcA v, 35), (b3, cfA c, 38), (b4, nil21, 42)] w8 from hk)
          clear hk
          (try simp only [Act.put, gA, gS, gZ, sA, sZ, sS])
          refine wv (.pointer (some ⟨b1, 19, none⟩)) ?_
          (try simp only [Act.put, gA, gS, gZ, sA, sZ, sS])
          refine kb_set K8.out 0 rfl 3 _ _ 19 (.int .i64 0) rfl (by rfl) rfl rfl (kb_run_set K8.out (i := 0) rfl 3 19 (.int .i64 x.p19) (.int .i64 0) (by rfl) (fun W h1 h2 => by go_simp)) (poA ⟨x.p0, x.p1, x.p2, x.p3, x.p4, x.p5, x.p6, x.p7, x.p8, false, 4, 2, 1, (v.r : Nat), (v.c : Nat), (v.b : Nat), (v.p : Nat), 0, 0, 0, x.p20⟩) (by kernel_rfl) ?_
          intro w9 hk
          have K9 := Lib.hid (show Kb w [(b1, poA ⟨x.p0, x.p1, x.p2, x.p3, x.p4, x.p5, x.p6, x.p7, x.p8, false, 4, 2, 1, (v.r : Nat), (v.c : Nat), (v.b : Nat), (v.p : Nat), 0, 0, 0, x.p20⟩, 42), (b2, vcA v, 35), (b3, cfA c, 38), (b4, nil21, 42)] w9 from hk)
          clear hk
          (try simp only [Act.put, gA, gS, gZ, sA, sZ, sS])
          refine wpList_nil ?_
          go_upto_region 10 with fail
          refine wp_region_lit ?_
          refine wv (.agg (poA ⟨x.p0, x.p1, x.p2, x.p3, x.p4, x.p5, x.p6, x.p7, x.p8, false, 4, 2, 1, (v.r : Nat), (v.c : Nat), (v.b : Nat), (v.p : Nat), 0, 0, 0, x.p20⟩)) ?_ (hrun := kb_all K9.out 0 rfl 42 _ rfl rfl Try.underlying42 rfl (size50))
          (try simp only [Act.put, gA, gS, gZ, sA, sZ, sS])
          refine wv (.bool true) ?_
          (try simp only [Act.put, gA, gS, gZ, sA, sZ, sS])
          refine kb_row K9.out 3 rfl 42 _ _ (poA ⟨x.p0, x.p1, x.p2, x.p3, x.p4, x.p5, x.p6, x.p7, x.p8, false, 4, 2, 1, (v.r : Nat), (v.c : Nat), (v.b : Nat), (v.p : Nat), 0, 0, 0, x.p20⟩) rfl rfl rfl rfl (size50) (by rfl) (po_all _) ?_
          intro w10 hk
          have K10 := Lib.hid (show Kb w [(b1, poA ⟨x.p0, x.p1, x.p2, x.p3, x.p4, x.p5, x.p6, x.p7, x.p8, false, 4, 2, 1, (v.r : Nat), (v.c : Nat), (v.b : Nat), (v.p : Nat), 0, 0, 0, x.p20⟩, 42), (b2, vcA v, 35), (b3, cfA c, 38), (b4, poA ⟨x.p0, x.p1, x.p2, x.p3, x.p4, x.p5, x.p6, x.p7, x.p8, false, 4, 2, 1, (v.r : Nat), (v.c : Nat), (v.b : Nat), (v.p : Nat), 0, 0, 0, x.p20⟩, 42)] w10 from hk)
          clear hk
          (try simp only [Act.put, gA, gS, gZ, sA, sZ, sS])
          refine wv (.bool true) ?_
          (try simp only [Act.put, gA, gS, gZ, sA, sZ, sS])
          refine wpList_nil ?_
          go_wp2_with fail
          refine bodyPost_ret (v := .tuple #[.agg (poA ⟨x.p0, x.p1, x.p2, x.p3, x.p4, x.p5, x.p6, x.p7, x.p8, false, 4, 2, 1, (v.r : Nat), (v.c : Nat), (v.b : Nat), (v.p : Nat), 0, 0, 0, x.p20⟩), .bool true]) (results_row_tmp Try.results15 _ _ b4 42 (poA ⟨x.p0, x.p1, x.p2, x.p3, x.p4, x.p5, x.p6, x.p7, x.p8, false, 4, 2, 1, (v.r : Nat), (v.c : Nat), (v.b : Nat), (v.p : Nat), 0, 0, 0, x.p20⟩) (.bool true) _ rfl rfl (K10.out.at (i := 3) rfl) Try.underlying42 rfl (po_info _)) rfl ?_
          exact ⟨rfl, K10.out.below⟩
      case true =>
        cases hed : edgeB x
        case false =>
          have hB : desB x u v = false := by simp [desB, hr, hi, he]
          have hP : desP x u v c.p3 = ⟨x.p0, x.p1, x.p2, x.p3, x.p4, x.p5, x.p6, x.p7, x.p8, x.p9, 4, x.p11, x.p12, (u.r : Nat), (u.c : Nat), (u.b : Nat), (u.p : Nat), x.p17, x.p18, x.p19, x.p20⟩ := by simp [desP, desV, hB, hed, hr]
          rw [hP, hB]
          unfold poU
          have HED := Lib.hid hed
          clear hP hB hed
          have K := Lib.hid (Kb.nil w)
          go_enter Try.func15, Try.ntmps15
          go_upto_region 0 with fail
          refine wp_region_lit ?_
          refine kb_box K.out 42 (.tmp 0) (poA ⟨x.p0, x.p1, x.p2, x.p3, x.p4, x.p5, x.p6, x.p7, x.p8, x.p9, x.p10, x.p11, x.p12, (u.r : Nat), (u.c : Nat), (u.b : Nat), (u.p : Nat), x.p17, x.p18, x.p19, x.p20⟩) rfl rfl (by rfl) ?_
          intro b1 w1 hb1 hk
          have K1 := Lib.hid (show Kb w [(b1, poA ⟨x.p0, x.p1, x.p2, x.p3, x.p4, x.p5, x.p6, x.p7, x.p8, x.p9, x.p10, x.p11, x.p12, (u.r : Nat), (u.c : Nat), (u.b : Nat), (u.p : Nat), x.p17, x.p18, x.p19, x.p20⟩, 42)] w1 from hk)
          clear hk hb1
          (try simp only [Act.put, gA, gS, gZ, sA, sZ, sS])
          refine kb_box K1.out 35 (.tmp 1) (vcA v) rfl rfl (by rfl) ?_
          intro b2 w2 hb2 hk
          have K2 := Lib.hid (show Kb w [(b1, poA ⟨x.p0, x.p1, x.p2, x.p3, x.p4, x.p5, x.p6, x.p7, x.p8, x.p9, x.p10, x.p11, x.p12, (u.r : Nat), (u.c : Nat), (u.b : Nat), (u.p : Nat), x.p17, x.p18, x.p19, x.p20⟩, 42), (b2, vcA v, 35)] w2 from hk)
          clear hk hb2
          (try simp only [Act.put, gA, gS, gZ, sA, sZ, sS])
          refine kb_box K2.out 38 (.tmp 2) (cfA c) rfl rfl (by rfl) ?_
          intro b3 w3 hb3 hk
          have K3 := Lib.hid (show Kb w [(b1, poA ⟨x.p0, x.p1, x.p2, x.p3, x.p4, x.p5, x.p6, x.p7, x.p8, x.p9, x.p10, x.p11, x.p12, (u.r : Nat), (u.c : Nat), (u.b : Nat), (u.p : Nat), x.p17, x.p18, x.p19, x.p20⟩, 42), (b2, vcA v, 35), (b3, cfA c, 38)] w3 from hk)
          clear hk hb3
          (try simp only [Act.put, gA, gS, gZ, sA, sZ, sS])
          refine kb_alloc K3.out 42 (nil21) rfl z50 (by rfl) ?_
          intro b4 w4 hb4 hk
          have K4 := Lib.hid (show Kb w [(b1, poA ⟨x.p0, x.p1, x.p2, x.p3, x.p4, x.p5, x.p6, x.p7, x.p8, x.p9, x.p10, x.p11, x.p12, (u.r : Nat), (u.c : Nat), (u.b : Nat), (u.p : Nat), x.p17, x.p18, x.p19, x.p20⟩, 42), (b2, vcA v, 35), (b3, cfA c, 38), (b4, nil21, 42)] w4 from hk)
          clear hk hb4
          (try simp only [Act.put, gA, gS, gZ, sA, sZ, sS])
          refine wv (.bool false) ?_
          (try simp only [Act.put, gA, gS, gZ, sA, sZ, sS])
          refine wpList_nil ?_
          go_upto_region 1 with fail
          refine wp_region_lit ?_
          refine wv (.pointer (some ⟨b1, 10, none⟩)) ?_
          (try simp only [Act.put, gA, gS, gZ, sA, sZ, sS])
          refine wv (.int .i64 x.p10) ?_ (hrun := by have q : w4.cell? ⟨b1, 10, none⟩ = some (.int .i64 x.p10) := K4.out.cell (i := 0) rfl (by rfl); go_simp)
          (try simp only [Act.put, gA, gS, gZ, sA, sZ, sS])
          refine wv (.bool false) ?_ (hrun := by have q := hr; go_simp)
          (try simp only [Act.put, gA, gS, gZ, sA, sZ, sS])
          refine wv (.bool false) ?_
          (try simp only [Act.put, gA, gS, gZ, sA, sZ, sS])
          refine wpList_nil ?_
          go_upto_region 2 with fail
          refine wp_region_lit ?_
          refine wv (.bool false) ?_
          (try simp only [Act.put, gA, gS, gZ, sA, sZ, sS])
          refine wv (.bool false) ?_
          (try simp only [Act.put, gA, gS, gZ, sA, sZ, sS])
          refine wv (.pointer (some ⟨b1, 12, none⟩)) ?_
          (try simp only [Act.put, gA, gS, gZ, sA, sZ, sS])
          refine wv (.int .i64 x.p12) ?_ (hrun := by have q : w4.cell? ⟨b1, 12, none⟩ = some (.int .i64 x.p12) := K4.out.cell (i := 0) rfl (by rfl); go_simp)
          (try simp only [Act.put, gA, gS, gZ, sA, sZ, sS])
          refine wv (.bool false) ?_ (hrun := by have q := hi; go_simp)
          (try simp only [Act.put, gA, gS, gZ, sA, sZ, sS])
          refine wv (.bool false) ?_ (hrun := run_pick_no (.tmp 14) (.const (.bool true)) (.tmp 17) _ rfl rfl rfl)
          (try simp only [Act.put, gA, gS, gZ, sA, sZ, sS])
          refine wv (.bool false) ?_
          (try simp only [Act.put, gA, gS, gZ, sA, sZ, sS])
          refine wv (.pointer (some ⟨b1, 13, none⟩)) ?_
          (try simp only [Act.put, gA, gS, gZ, sA, sZ, sS])
          refine wv (.agg (#[.int .u64 (u.r : Nat), .int .u32 (u.c : Nat), .int .u64 (u.b : Nat), .int .u16 (u.p : Nat)])) ?_ (hrun := kb_part K4.out 0 rfl 35 _ 13 (#[.int .u64 (u.r : Nat), .int .u32 (u.c : Nat), .int .u64 (u.b : Nat), .int .u16 (u.p : Nat)]).toList rfl rfl (part_of (by kernel_rfl)) Try.underlying35 rfl (sizeV))
          (try simp only [Act.put, gA, gS, gZ, sA, sZ, sS])
          refine wv (.agg (vcA v)) ?_ (hrun := kb_all K4.out 1 rfl 35 _ rfl rfl Try.underlying35 rfl (sizeV))
          (try simp only [Act.put, gA, gS, gZ, sA, sZ, sS])
          refine wv (.bool false) ?_ (hrun := by have q := CE.out; rw [he] at q; go_simp)
          (try simp only [Act.put, gA, gS, gZ, sA, sZ, sS])
          refine wv (.bool false) ?_ (hrun := run_pick_no (.tmp 19) (.const (.bool true)) (.tmp 23) _ rfl rfl rfl)
          (try simp only [Act.put, gA, gS, gZ, sA, sZ, sS])
          refine wv (.bool false) ?_
          (try simp only [Act.put, gA, gS, gZ, sA, sZ, sS])
          refine wpList_nil ?_
          go_upto_region 3 with fail
          refine wp_region_lit ?_
          refine wv (.pointer (some ⟨b1, 10, none⟩)) ?_
          (try simp only [Act.put, gA, gS, gZ, sA, sZ, sS])
          refine kb_set K4.out 0 rfl 3 _ _ 10 (.int .i64 4) rfl (by rfl) rfl rfl (kb_run_set K4.out (i := 0) rfl 3 10 (.int .i64 x.p10) (.int .i64 4) (by rfl) (fun W h1 h2 => by go_simp)) (poA ⟨x.p0, x.p1, x.p2, x.p3, x.p4, x.p5, x.p6, x.p7, x.p8, x.p9, 4, x.p11, x.p12, (u.r : Nat), (u.c : Nat), (u.b : Nat), (u.p : Nat), x.p17, x.p18, x.p19, x.p20⟩) (by kernel_rfl) ?_
          intro w5 hk
          have K5 := Lib.hid (show Kb w [(b1, poA ⟨x.p0, x.p1, x.p2, x.p3, x.p4, x.p5, x.p6, x.p7, x.p8, x.p9, 4, x.p11, x.p12, (u.r : Nat), (u.c : Nat), (u.b : Nat), (u.p : Nat), x.p17, x.p18, x.p19, x.p20⟩, 42), (b2, vcA v, 35), (b3, cfA c, 38), (b4, nil21, 42)] w5 from hk)
          clear hk
          (try simp only [Act.put, gA, gS, gZ, sA, sZ, sS])
          refine wpList_nil ?_
          go_upto_region 4 with fail
          refine wp_region_lit ?_
          refine wv (.bool false) ?_
          (try simp only [Act.put, gA, gS, gZ, sA, sZ, sS])
          refine wpList_nil ?_
          go_upto_region 6 with fail
          refine wp_region_lit ?_
          refine wv (.bool false) ?_
          (try simp only [Act.put, gA, gS, gZ, sA, sZ, sS])
          refine wpList_nil ?_
          go_upto_region 8 with fail
          refine wp_region_lit ?_
          refine wv (.agg (poA ⟨x.p0, x.p1, x.p2, x.p3, x.p4, x.p5, x.p6, x.p7, x.p8, x.p9, 4, x.p11, x.p12, (u.r : Nat), (u.c : Nat), (u.b : Nat), (u.p : Nat), x.p17, x.p18, x.p19, x.p20⟩)) ?_ (hrun := kb_all K5.out 0 rfl 42 _ rfl rfl Try.underlying42 rfl (size50))
          (try simp only [Act.put, gA, gS, gZ, sA, sZ, sS])
          refine kb_call K5.out 13 #[.agg (poA ⟨x.p0, x.p1, x.p2, x.p3, x.p4, x.p5, x.p6, x.p7, x.p8, x.p9, 4, x.p11, x.p12, (u.r : Nat), (u.c : Nat), (u.b : Nat), (u.p : Nat), x.p17, x.p18, x.p19, x.p20⟩)] (.bool false) (by rfl) (by go_simp) (edge_is ⟨x.p0, x.p1, x.p2, x.p3, x.p4, x.p5, x.p6, x.p7, x.p8, x.p9, 4, x.p11, x.p12, (u.r : Nat), (u.c : Nat), (u.b : Nat), (u.p : Nat), x.p17, x.p18, x.p19, x.p20⟩ false HED.out w5) ?_
          intro w6 hk
          have K6 := Lib.hid (show Kb w [(b1, poA ⟨x.p0, x.p1, x.p2, x.p3, x.p4, x.p5, x.p6, x.p7, x.p8, x.p9, 4, x.p11, x.p12, (u.r : Nat), (u.c : Nat), (u.b : Nat), (u.p : Nat), x.p17, x.p18, x.p19, x.p20⟩, 42), (b2, vcA v, 35), (b3, cfA c, 38), (b4, nil21, 42)] w6 from hk)
          clear hk
          (try simp only [Act.put, gA, gS, gZ, sA, sZ, sS])
          refine wpList_nil ?_
          go_upto_region 10 with fail
          refine wp_region_lit ?_
          refine wv (.agg (poA ⟨x.p0, x.p1, x.p2, x.p3, x.p4, x.p5, x.p6, x.p7, x.p8, x.p9, 4, x.p11, x.p12, (u.r : Nat), (u.c : Nat), (u.b : Nat), (u.p : Nat), x.p17, x.p18, x.p19, x.p20⟩)) ?_ (hrun := kb_all K6.out 0 rfl 42 _ rfl rfl Try.underlying42 rfl (size50))
          (try simp only [Act.put, gA, gS, gZ, sA, sZ, sS])
          refine wv (.bool false) ?_
          (try simp only [Act.put, gA, gS, gZ, sA, sZ, sS])
          refine kb_row K6.out 3 rfl 42 _ _ (poA ⟨x.p0, x.p1, x.p2, x.p3, x.p4, x.p5, x.p6, x.p7, x.p8, x.p9, 4, x.p11, x.p12, (u.r : Nat), (u.c : Nat), (u.b : Nat), (u.p : Nat), x.p17, x.p18, x.p19, x.p20⟩) rfl rfl rfl rfl (size50) (by rfl) (po_all _) ?_
          intro w7 hk
          have K7 := Lib.hid (show Kb w [(b1, poA ⟨x.p0, x.p1, x.p2, x.p3, x.p4, x.p5, x.p6, x.p7, x.p8, x.p9, 4, x.p11, x.p12, (u.r : Nat), (u.c : Nat), (u.b : Nat), (u.p : Nat), x.p17, x.p18, x.p19, x.p20⟩, 42), (b2, vcA v, 35), (b3, cfA c, 38), (b4, poA ⟨x.p0, x.p1, x.p2, x.p3, x.p4, x.p5, x.p6, x.p7, x.p8, x.p9, 4, x.p11, x.p12, (u.r : Nat), (u.c : Nat), (u.b : Nat), (u.p : Nat), x.p17, x.p18, x.p19, x.p20⟩, 42)] w7 from hk)
          clear hk
          (try simp only [Act.put, gA, gS, gZ, sA, sZ, sS])
          refine wv (.bool false) ?_
          (try simp only [Act.put, gA, gS, gZ, sA, sZ, sS])
          refine wpList_nil ?_
          go_wp2_with fail
          refine bodyPost_ret (v := .tuple #[.agg (poA ⟨x.p0, x.p1, x.p2, x.p3, x.p4, x.p5, x.p6, x.p7, x.p8, x.p9, 4, x.p11, x.p12, (u.r : Nat), (u.c : Nat), (u.b : Nat), (u.p : Nat), x.p17, x.p18, x.p19, x.p20⟩), .bool false]) (results_row_tmp Try.results15 _ _ b4 42 (poA ⟨x.p0, x.p1, x.p2, x.p3, x.p4, x.p5, x.p6, x.p7, x.p8, x.p9, 4, x.p11, x.p12, (u.r : Nat), (u.c : Nat), (u.b : Nat), (u.p : Nat), x.p17, x.p18, x.p19, x.p20⟩) (.bool false) _ rfl rfl (K7.out.at (i := 3) rfl) Try.underlying42 rfl (po_info _)) rfl ?_
          exact ⟨rfl, K7.out.below⟩
        case true =>
          have hB : desB x u v = false := by simp [desB, hr, hi, he]
          have hP : desP x u v c.p3 = ⟨x.p0, x.p1, x.p2, x.p3, x.p4, x.p5, x.p6, x.p7, x.p8, x.p9, 4, 2, x.p12, (u.r : Nat), (u.c : Nat), (u.b : Nat), (u.p : Nat), x.p17, x.p18, 0, x.p20⟩ := by simp [desP, desV, hB, hed, hr]
          rw [hP, hB]
          unfold poU
          have HED := Lib.hid hed
          clear hP hB hed
          have K := Lib.hid (Kb.nil w)
          go_enter Try.func15, Try.ntmps15
          go_upto_region 0 with fail
          refine wp_region_lit ?_
          refine kb_box K.out 42 (.tmp 0) (poA ⟨x.p0, x.p1, x.p2, x.p3, x.p4, x.p5, x.p6, x.p7, x.p8, x.p9, x.p10, x.p11, x.p12, (u.r : Nat), (u.c : Nat), (u.b : Nat), (u.p : Nat), x.p17, x.p18, x.p19, x.p20⟩) rfl rfl (by rfl) ?_
          intro b1 w1 hb1 hk
          have K1 := Lib.hid (show Kb w [(b1, poA ⟨x.p0, x.p1, x.p2, x.p3, x.p4, x.p5, x.p6, x.p7, x.p8, x.p9, x.p10, x.p11, x.p12, (u.r : Nat), (u.c : Nat), (u.b : Nat), (u.p : Nat), x.p17, x.p18, x.p19, x.p20⟩, 42)] w1 from hk)
          clear hk hb1
          (try simp only [Act.put, gA, gS, gZ, sA, sZ, sS])
          refine kb_box K1.out 35 (.tmp 1) (vcA v) rfl rfl (by rfl) ?_
          intro b2 w2 hb2 hk
          have K2 := Lib.hid (show Kb w [(b1, poA ⟨x.p0, x.p1, x.p2, x.p3, x.p4, x.p5, x.p6, x.p7, x.p8, x.p9, x.p10, x.p11, x.p12, (u.r : Nat), (u.c : Nat), (u.b : Nat), (u.p : Nat), x.p17, x.p18, x.p19, x.p20⟩, 42), (b2, vcA v, 35)] w2 from hk)
          clear hk hb2
          (try simp only [Act.put, gA, gS, gZ, sA, sZ, sS])
          refine kb_box K2.out 38 (.tmp 2) (cfA c) rfl rfl (by rfl) ?_
          intro b3 w3 hb3 hk
          have K3 := Lib.hid (show Kb w [(b1, poA ⟨x.p0, x.p1, x.p2, x.p3, x.p4, x.p5, x.p6, x.p7, x.p8, x.p9, x.p10, x.p11, x.p12, (u.r : Nat), (u.c : Nat), (u.b : Nat), (u.p : Nat), x.p17, x.p18, x.p19, x.p20⟩, 42), (b2, vcA v, 35), (b3, cfA c, 38)] w3 from hk)
          clear hk hb3
          (try simp only [Act.put, gA, gS, gZ, sA, sZ, sS])
          refine kb_alloc K3.out 42 (nil21) rfl z50 (by rfl) ?_
          intro b4 w4 hb4 hk
          have K4 := Lib.hid (show Kb w [(b1, poA ⟨x.p0, x.p1, x.p2, x.p3, x.p4, x.p5, x.p6, x.p7, x.p8, x.p9, x.p10, x.p11, x.p12, (u.r : Nat), (u.c : Nat), (u.b : Nat), (u.p : Nat), x.p17, x.p18, x.p19, x.p20⟩, 42), (b2, vcA v, 35), (b3, cfA c, 38), (b4, nil21, 42)] w4 from hk)
          clear hk hb4
          (try simp only [Act.put, gA, gS, gZ, sA, sZ, sS])
          refine wv (.bool false) ?_
          (try simp only [Act.put, gA, gS, gZ, sA, sZ, sS])
          refine wpList_nil ?_
          go_upto_region 1 with fail
          refine wp_region_lit ?_
          refine wv (.pointer (some ⟨b1, 10, none⟩)) ?_
          (try simp only [Act.put, gA, gS, gZ, sA, sZ, sS])
          refine wv (.int .i64 x.p10) ?_ (hrun := by have q : w4.cell? ⟨b1, 10, none⟩ = some (.int .i64 x.p10) := K4.out.cell (i := 0) rfl (by rfl); go_simp)
          (try simp only [Act.put, gA, gS, gZ, sA, sZ, sS])
          refine wv (.bool false) ?_ (hrun := by have q := hr; go_simp)
          (try simp only [Act.put, gA, gS, gZ, sA, sZ, sS])
          refine wv (.bool false) ?_
          (try simp only [Act.put, gA, gS, gZ, sA, sZ, sS])
          refine wpList_nil ?_
          go_upto_region 2 with fail
          refine wp_region_lit ?_
          refine wv (.bool false) ?_
          (try simp only [Act.put, gA, gS, gZ, sA, sZ, sS])
          refine wv (.bool false) ?_
          (try simp only [Act.put, gA, gS, gZ, sA, sZ, sS])
          refine wv (.pointer (some ⟨b1, 12, none⟩)) ?_
          (try simp only [Act.put, gA, gS, gZ, sA, sZ, sS])
          refine wv (.int .i64 x.p12) ?_ (hrun := by have q : w4.cell? ⟨b1, 12, none⟩ = some (.int .i64 x.p12) := K4.out.cell (i := 0) rfl (by rfl); go_simp)
          (try simp only [Act.put, gA, gS, gZ, sA, sZ, sS])
          refine wv (.bool false) ?_ (hrun := by have q := hi; go_simp)
          (try simp only [Act.put, gA, gS, gZ, sA, sZ, sS])
          refine wv (.bool false) ?_ (hrun := run_pick_no (.tmp 14) (.const (.bool true)) (.tmp 17) _ rfl rfl rfl)
          (try simp only [Act.put, gA, gS, gZ, sA, sZ, sS])
          refine wv (.bool false) ?_
          (try simp only [Act.put, gA, gS, gZ, sA, sZ, sS])
          refine wv (.pointer (some ⟨b1, 13, none⟩)) ?_
          (try simp only [Act.put, gA, gS, gZ, sA, sZ, sS])
          refine wv (.agg (#[.int .u64 (u.r : Nat), .int .u32 (u.c : Nat), .int .u64 (u.b : Nat), .int .u16 (u.p : Nat)])) ?_ (hrun := kb_part K4.out 0 rfl 35 _ 13 (#[.int .u64 (u.r : Nat), .int .u32 (u.c : Nat), .int .u64 (u.b : Nat), .int .u16 (u.p : Nat)]).toList rfl rfl (part_of (by kernel_rfl)) Try.underlying35 rfl (sizeV))
          (try simp only [Act.put, gA, gS, gZ, sA, sZ, sS])
          refine wv (.agg (vcA v)) ?_ (hrun := kb_all K4.out 1 rfl 35 _ rfl rfl Try.underlying35 rfl (sizeV))
          (try simp only [Act.put, gA, gS, gZ, sA, sZ, sS])
          refine wv (.bool false) ?_ (hrun := by have q := CE.out; rw [he] at q; go_simp)
          (try simp only [Act.put, gA, gS, gZ, sA, sZ, sS])
          refine wv (.bool false) ?_ (hrun := run_pick_no (.tmp 19) (.const (.bool true)) (.tmp 23) _ rfl rfl rfl)
          (try simp only [Act.put, gA, gS, gZ, sA, sZ, sS])
          refine wv (.bool false) ?_
          (try simp only [Act.put, gA, gS, gZ, sA, sZ, sS])
          refine wpList_nil ?_
          go_upto_region 3 with fail
          refine wp_region_lit ?_
          refine wv (.pointer (some ⟨b1, 10, none⟩)) ?_
          (try simp only [Act.put, gA, gS, gZ, sA, sZ, sS])
          refine kb_set K4.out 0 rfl 3 _ _ 10 (.int .i64 4) rfl (by rfl) rfl rfl (kb_run_set K4.out (i := 0) rfl 3 10 (.int .i64 x.p10) (.int .i64 4) (by rfl) (fun W h1 h2 => by go_simp)) (poA ⟨x.p0, x.p1, x.p2, x.p3, x.p4, x.p5, x.p6, x.p7, x.p8, x.p9, 4, x.p11, x.p12, (u.r : Nat), (u.c : Nat), (u.b : Nat), (u.p : Nat), x.p17, x.p18, x.p19, x.p20⟩) (by kernel_rfl) ?_
          intro w5 hk
          have K5 := Lib.hid (show Kb w [(b1, poA ⟨x.p0, x.p1, x.p2, x.p3, x.p4, x.p5, x.p6, x.p7, x.p8, x.p9, 4, x.p11, x.p12, (u.r : Nat), (u.c : Nat), (u.b : Nat), (u.p : Nat), x.p17, x.p18, x.p19, x.p20⟩, 42), (b2, vcA v, 35), (b3, cfA c, 38), (b4, nil21, 42)] w5 from hk)
          clear hk
          (try simp only [Act.put, gA, gS, gZ, sA, sZ, sS])
          refine wpList_nil ?_
          go_upto_region 4 with fail
          refine wp_region_lit ?_
          refine wv (.bool false) ?_
          (try simp only [Act.put, gA, gS, gZ, sA, sZ, sS])
          refine wpList_nil ?_
          go_upto_region 6 with fail
          refine wp_region_lit ?_
          refine wv (.bool false) ?_
          (try simp only [Act.put, gA, gS, gZ, sA, sZ, sS])
          refine wpList_nil ?_
          go_upto_region 8 with fail
          refine wp_region_lit ?_
          refine wv (.agg (poA ⟨x.p0, x.p1, x.p2, x.p3, x.p4, x.p5, x.p6, x.p7, x.p8, x.p9, 4, x.p11, x.p12, (u.r : Nat), (u.c : Nat), (u.b : Nat), (u.p : Nat), x.p17, x.p18, x.p19, x.p20⟩)) ?_ (hrun := kb_all K5.out 0 rfl 42 _ rfl rfl Try.underlying42 rfl (size50))
          (try simp only [Act.put, gA, gS, gZ, sA, sZ, sS])
          refine kb_call K5.out 13 #[.agg (poA ⟨x.p0, x.p1, x.p2, x.p3, x.p4, x.p5, x.p6, x.p7, x.p8, x.p9, 4, x.p11, x.p12, (u.r : Nat), (u.c : Nat), (u.b : Nat), (u.p : Nat), x.p17, x.p18, x.p19, x.p20⟩)] (.bool true) (by rfl) (by go_simp) (edge_is ⟨x.p0, x.p1, x.p2, x.p3, x.p4, x.p5, x.p6, x.p7, x.p8, x.p9, 4, x.p11, x.p12, (u.r : Nat), (u.c : Nat), (u.b : Nat), (u.p : Nat), x.p17, x.p18, x.p19, x.p20⟩ true HED.out w5) ?_
          intro w6 hk
          have K6 := Lib.hid (show Kb w [(b1, poA ⟨x.p0, x.p1, x.p2, x.p3, x.p4, x.p5, x.p6, x.p7, x.p8, x.p9, 4, x.p11, x.p12, (u.r : Nat), (u.c : Nat), (u.b : Nat), (u.p : Nat), x.p17, x.p18, x.p19, x.p20⟩, 42), (b2, vcA v, 35), (b3, cfA c, 38), (b4, nil21, 42)] w6 from hk)
          clear hk
          (try simp only [Act.put, gA, gS, gZ, sA, sZ, sS])
          refine wpList_nil ?_
          go_upto_region 9 with fail
          refine wp_region_lit ?_
          refine wv (.pointer (some ⟨b1, 11, none⟩)) ?_
          (try simp only [Act.put, gA, gS, gZ, sA, sZ, sS])
          refine kb_set K6.out 0 rfl 3 _ _ 11 (.int .i64 2) rfl (by rfl) rfl rfl (kb_run_set K6.out (i := 0) rfl 3 11 (.int .i64 x.p11) (.int .i64 2) (by rfl) (fun W h1 h2 => by go_simp)) (poA ⟨x.p0, x.p1, x.p2, x.p3, x.p4, x.p5, x.p6, x.p7, x.p8, x.p9, 4, 2, x.p12, (u.r : Nat), (u.c : Nat), (u.b : Nat), (u.p : Nat), x.p17, x.p18, x.p19, x.p20⟩) (by kernel_rfl) ?_
          intro w7 hk
          have K7 := Lib.hid (show Kb w [(b1, poA ⟨x.p0, x.p1, x.p2, x.p3, x.p4, x.p5, x.p6, x.p7, x.p8, x.p9, 4, 2, x.p12, (u.r : Nat), (u.c : Nat), (u.b : Nat), (u.p : Nat), x.p17, x.p18, x.p19, x.p20⟩, 42), (b2, vcA v, 35), (b3, cfA c, 38), (b4, nil21, 42)] w7 from hk)
          clear hk
          (try simp only [Act.put, gA, gS, gZ, sA, sZ, sS])
          refine wv (.pointer (some ⟨b1, 19, none⟩)) ?_
          (try simp only [Act.put, gA, gS, gZ, sA, sZ, sS])
          refine kb_set K7.out 0 rfl 3 _ _ 19 (.int .i64 0) rfl (by rfl) rfl rfl (kb_run_set K7.out (i := 0) rfl 3 19 (.int .i64 x.p19) (.int .i64 0) (by rfl) (fun W h1 h2 => by go_simp)) (poA ⟨x.p0, x.p1, x.p2, x.p3, x.p4, x.p5, x.p6, x.p7, x.p8, x.p9, 4, 2, x.p12, (u.r : Nat), (u.c : Nat), (u.b : Nat), (u.p : Nat), x.p17, x.p18, 0, x.p20⟩) (by kernel_rfl) ?_
          intro w8 hk
          have K8 := Lib.hid (show Kb w [(b1, poA ⟨x.p0, x.p1, x.p2, x.p3, x.p4, x.p5, x.p6, x.p7, x.p8, x.p9, 4, 2, x.p12, (u.r : Nat), (u.c : Nat), (u.b : Nat), (u.p : Nat), x.p17, x.p18, 0, x.p20⟩, 42), (b2, vcA v, 35), (b3, cfA c, 38), (b4, nil21, 42)] w8 from hk)
          clear hk
          (try simp only [Act.put, gA, gS, gZ, sA, sZ, sS])
          refine wpList_nil ?_
          go_upto_region 10 with fail
          refine wp_region_lit ?_
          refine wv (.agg (poA ⟨x.p0, x.p1, x.p2, x.p3, x.p4, x.p5, x.p6, x.p7, x.p8, x.p9, 4, 2, x.p12, (u.r : Nat), (u.c : Nat), (u.b : Nat), (u.p : Nat), x.p17, x.p18, 0, x.p20⟩)) ?_ (hrun := kb_all K8.out 0 rfl 42 _ rfl rfl Try.underlying42 rfl (size50))
          (try simp only [Act.put, gA, gS, gZ, sA, sZ, sS])
          refine wv (.bool false) ?_
          (try simp only [Act.put, gA, gS, gZ, sA, sZ, sS])
          refine kb_row K8.out 3 rfl 42 _ _ (poA ⟨x.p0, x.p1, x.p2, x.p3, x.p4, x.p5, x.p6, x.p7, x.p8, x.p9, 4, 2, x.p12, (u.r : Nat), (u.c : Nat), (u.b : Nat), (u.p : Nat), x.p17, x.p18, 0, x.p20⟩) rfl rfl rfl rfl (size50) (by rfl) (po_all _) ?_
          intro w9 hk
          have K9 := Lib.hid (show Kb w [(b1, poA ⟨x.p0, x.p1, x.p2, x.p3, x.p4, x.p5, x.p6, x.p7, x.p8, x.p9, 4, 2, x.p12, (u.r : Nat), (u.c : Nat), (u.b : Nat), (u.p : Nat), x.p17, x.p18, 0, x.p20⟩, 42), (b2, vcA v, 35), (b3, cfA c, 38), (b4, poA ⟨x.p0, x.p1, x.p2, x.p3, x.p4, x.p5, x.p6, x.p7, x.p8, x.p9, 4, 2, x.p12, (u.r : Nat), (u.c : Nat), (u.b : Nat), (u.p : Nat), x.p17, x.p18, 0, x.p20⟩, 42)] w9 from hk)
          clear hk
          (try simp only [Act.put, gA, gS, gZ, sA, sZ, sS])
          refine wv (.bool false) ?_
          (try simp only [Act.put, gA, gS, gZ, sA, sZ, sS])
          refine wpList_nil ?_
          go_wp2_with fail
          refine bodyPost_ret (v := .tuple #[.agg (poA ⟨x.p0, x.p1, x.p2, x.p3, x.p4, x.p5, x.p6, x.p7, x.p8, x.p9, 4, 2, x.p12, (u.r : Nat), (u.c : Nat), (u.b : Nat), (u.p : Nat), x.p17, x.p18, 0, x.p20⟩), .bool false]) (results_row_tmp Try.results15 _ _ b4 42 (poA ⟨x.p0, x.p1, x.p2, x.p3, x.p4, x.p5, x.p6, x.p7, x.p8, x.p9, 4, 2, x.p12, (u.r : Nat), (u.c : Nat), (u.b : Nat), (u.p : Nat), x.p17, x.p18, 0, x.p20⟩) (.bool false) _ rfl rfl (K9.out.at (i := 3) rfl) Try.underlying42 rfl (po_info _)) rfl ?_
          exact ⟨rfl, K9.out.below⟩
end Go.Proofs.Yteeinlbhcdpnnaa
