/- Assume. -/
import Derived.Test.YteeinlbhcdpnnaaSa2
namespace Go.Proofs.Yteeinlbhcdpnnaa
open Go.RowKit
attribute [local irreducible] wpQuiet wpList
set_option linter.unusedSimpArgs false
set_option linter.unusedVariables false

/-- The slots, while the region runs. -/
def AsA1 (x Q : Po) (u v : Vc) (c : Cf) (op : Bool) (b1 b2 b3 b4 b5 : Nat) (L : Nat → Bool) : Act := { tmps := #[.agg (poA ⟨x.p0, x.p1, x.p2, x.p3, x.p4, x.p5, x.p6, x.p7, x.p8, x.p9, x.p10, x.p11, x.p12, (u.r : Nat), (u.c : Nat), (u.b : Nat), (u.p : Nat), x.p17, x.p18, x.p19, x.p20⟩), .int .i64 1, .agg (vcA v), .agg (cfA c), .pointer (some ⟨b1, 0, none⟩), undef, .pointer (some ⟨b2, 0, none⟩), .pointer (some ⟨b3, 0, none⟩), .pointer (some ⟨b4, 0, none⟩), bif L 6 then .bool false else .bool false, bif L 7 then .bool op else .bool false, .pointer (some ⟨b5, 0, none⟩), .bool false, .agg (poA ⟨x.p0, x.p1, x.p2, x.p3, x.p4, x.p5, x.p6, x.p7, x.p8, x.p9, x.p10, x.p11, x.p12, (u.r : Nat), (u.c : Nat), (u.b : Nat), (u.p : Nat), x.p17, x.p18, x.p19, x.p20⟩), .int .i64 1, .pointer (some ⟨b1, 10, none⟩), .int .i64 1, .bool true, .bool true, undef, .agg (poA ⟨x.p0, x.p1, x.p2, x.p3, x.p4, x.p5, x.p6, x.p7, x.p8, x.p9, 1, x.p11, x.p12, (u.r : Nat), (u.c : Nat), (u.b : Nat), (u.p : Nat), x.p17, x.p18, x.p19, x.p20⟩), .agg (poA Q), undef, undef, undef, undef, undef, undef, undef, undef, undef, undef, undef, undef, undef, undef, undef, undef, bif L 0 then .agg (poA Q) else undef, bif L 1 then .bool false else undef, bif L 2 then .agg (poA ⟨x.p0, x.p1, x.p2, x.p3, x.p4, x.p5, x.p6, x.p7, x.p8, x.p9, x.p10, x.p11, x.p12, (u.r : Nat), (u.c : Nat), (u.b : Nat), (u.p : Nat), x.p17, x.p18, x.p19, x.p20⟩) else undef, bif L 3 then .agg (poA Q) else undef, bif L 4 then .bool op else undef], defers := [] }
/-- The slots, while the region runs. -/
def AsA2 (x Q : Po) (u v : Vc) (c : Cf) (op : Bool) (b1 b2 b3 b4 b5 : Nat) (L : Nat → Bool) : Act := { tmps := #[.agg (poA ⟨x.p0, x.p1, x.p2, x.p3, x.p4, x.p5, x.p6, x.p7, x.p8, x.p9, x.p10, x.p11, x.p12, (u.r : Nat), (u.c : Nat), (u.b : Nat), (u.p : Nat), x.p17, x.p18, x.p19, x.p20⟩), .int .i64 2, .agg (vcA v), .agg (cfA c), .pointer (some ⟨b1, 0, none⟩), undef, .pointer (some ⟨b2, 0, none⟩), .pointer (some ⟨b3, 0, none⟩), .pointer (some ⟨b4, 0, none⟩), bif L 6 then .bool false else .bool false, bif L 7 then .bool op else .bool false, .pointer (some ⟨b5, 0, none⟩), .bool false, .agg (poA ⟨x.p0, x.p1, x.p2, x.p3, x.p4, x.p5, x.p6, x.p7, x.p8, x.p9, x.p10, x.p11, x.p12, (u.r : Nat), (u.c : Nat), (u.b : Nat), (u.p : Nat), x.p17, x.p18, x.p19, x.p20⟩), .int .i64 2, .pointer (some ⟨b1, 10, none⟩), .int .i64 2, .bool true, .bool false, .bool true, .agg (poA ⟨x.p0, x.p1, x.p2, x.p3, x.p4, x.p5, x.p6, x.p7, x.p8, x.p9, 2, x.p11, x.p12, (u.r : Nat), (u.c : Nat), (u.b : Nat), (u.p : Nat), x.p17, x.p18, x.p19, x.p20⟩), .agg (poA Q), undef, undef, undef, undef, undef, undef, undef, undef, undef, undef, undef, undef, undef, undef, undef, undef, bif L 0 then .agg (poA Q) else undef, bif L 1 then .bool false else undef, bif L 2 then .agg (poA ⟨x.p0, x.p1, x.p2, x.p3, x.p4, x.p5, x.p6, x.p7, x.p8, x.p9, x.p10, x.p11, x.p12, (u.r : Nat), (u.c : Nat), (u.b : Nat), (u.p : Nat), x.p17, x.p18, x.p19, x.p20⟩) else undef, bif L 3 then .agg (poA Q) else undef, bif L 4 then .bool op else undef], defers := [] }
/-- The slots, while the region runs. -/
def AsA3 (x Q : Po) (u v : Vc) (c : Cf) (op : Bool) (b1 b2 b3 b4 b5 : Nat) (L : Nat → Bool) : Act := { tmps := #[.agg (poA ⟨x.p0, x.p1, x.p2, x.p3, x.p4, x.p5, x.p6, x.p7, x.p8, x.p9, x.p10, x.p11, x.p12, (u.r : Nat), (u.c : Nat), (u.b : Nat), (u.p : Nat), x.p17, x.p18, x.p19, x.p20⟩), .int .i64 3, .agg (vcA v), .agg (cfA c), .pointer (some ⟨b1, 0, none⟩), undef, .pointer (some ⟨b2, 0, none⟩), .pointer (some ⟨b3, 0, none⟩), .pointer (some ⟨b4, 0, none⟩), bif L 6 then .bool false else .bool false, bif L 7 then .bool op else .bool false, .pointer (some ⟨b5, 0, none⟩), .bool false, .agg (poA ⟨x.p0, x.p1, x.p2, x.p3, x.p4, x.p5, x.p6, x.p7, x.p8, x.p9, x.p10, x.p11, x.p12, (u.r : Nat), (u.c : Nat), (u.b : Nat), (u.p : Nat), x.p17, x.p18, x.p19, x.p20⟩), .int .i64 3, .pointer (some ⟨b1, 10, none⟩), .int .i64 3, .bool false, .bool false, .bool false, undef, undef, .bool true, .bool true, .pointer (some ⟨b5, 10, none⟩), .int .i64 x.p10, .bool false, undef, undef, undef, undef, undef, undef, undef, undef, undef, undef, undef, bif L 0 then .agg (poA Q) else undef, bif L 1 then .bool false else undef, bif L 2 then .agg (poA ⟨x.p0, x.p1, x.p2, x.p3, x.p4, x.p5, x.p6, x.p7, x.p8, x.p9, x.p10, x.p11, x.p12, (u.r : Nat), (u.c : Nat), (u.b : Nat), (u.p : Nat), x.p17, x.p18, x.p19, x.p20⟩) else undef, bif L 3 then .agg (poA Q) else undef, bif L 4 then .bool op else undef], defers := [] }
/-- The slots, while the region runs. -/
def AsA4 (x Q : Po) (u v : Vc) (c : Cf) (op : Bool) (b1 b2 b3 b4 b5 : Nat) (L : Nat → Bool) : Act := { tmps := #[.agg (poA ⟨x.p0, x.p1, x.p2, x.p3, x.p4, x.p5, x.p6, x.p7, x.p8, x.p9, x.p10, x.p11, x.p12, (u.r : Nat), (u.c : Nat), (u.b : Nat), (u.p : Nat), x.p17, x.p18, x.p19, x.p20⟩), .int .i64 3, .agg (vcA v), .agg (cfA c), .pointer (some ⟨b1, 0, none⟩), undef, .pointer (some ⟨b2, 0, none⟩), .pointer (some ⟨b3, 0, none⟩), .pointer (some ⟨b4, 0, none⟩), bif L 6 then .bool false else .bool false, bif L 7 then .bool op else .bool false, .pointer (some ⟨b5, 0, none⟩), .bool false, .agg (poA ⟨x.p0, x.p1, x.p2, x.p3, x.p4, x.p5, x.p6, x.p7, x.p8, x.p9, x.p10, x.p11, x.p12, (u.r : Nat), (u.c : Nat), (u.b : Nat), (u.p : Nat), x.p17, x.p18, x.p19, x.p20⟩), .int .i64 3, .pointer (some ⟨b1, 10, none⟩), .int .i64 3, .bool false, .bool false, .bool false, undef, undef, .bool true, .bool true, .pointer (some ⟨b5, 10, none⟩), .int .i64 x.p10, .bool true, .agg (poA ⟨x.p0, x.p1, x.p2, x.p3, x.p4, x.p5, x.p6, x.p7, x.p8, x.p9, 3, x.p11, x.p12, (u.r : Nat), (u.c : Nat), (u.b : Nat), (u.p : Nat), x.p17, x.p18, x.p19, x.p20⟩), .agg (poA Q), undef, undef, undef, undef, undef, undef, undef, undef, undef, bif L 0 then .agg (poA Q) else undef, bif L 1 then .bool false else undef, bif L 2 then .agg (poA ⟨x.p0, x.p1, x.p2, x.p3, x.p4, x.p5, x.p6, x.p7, x.p8, x.p9, x.p10, x.p11, x.p12, (u.r : Nat), (u.c : Nat), (u.b : Nat), (u.p : Nat), x.p17, x.p18, x.p19, x.p20⟩) else undef, bif L 3 then .agg (poA Q) else undef, bif L 4 then .bool op else undef], defers := [] }
/-- The slots, while the region runs. -/
def AsA5 (x Q : Po) (u v : Vc) (c : Cf) (an op : Bool) (b1 b2 b3 b4 b5 : Nat) (L : Nat → Bool) : Act := { tmps := #[.agg (poA ⟨x.p0, x.p1, x.p2, x.p3, x.p4, x.p5, x.p6, x.p7, x.p8, x.p9, x.p10, x.p11, x.p12, (u.r : Nat), (u.c : Nat), (u.b : Nat), (u.p : Nat), x.p17, x.p18, x.p19, x.p20⟩), .int .i64 4, .agg (vcA v), .agg (cfA c), .pointer (some ⟨b1, 0, none⟩), undef, .pointer (some ⟨b2, 0, none⟩), .pointer (some ⟨b3, 0, none⟩), .pointer (some ⟨b4, 0, none⟩), bif L 6 then .bool an else .bool false, bif L 7 then .bool op else .bool false, .pointer (some ⟨b5, 0, none⟩), .bool an, .agg (poA ⟨x.p0, x.p1, x.p2, x.p3, x.p4, x.p5, x.p6, x.p7, x.p8, x.p9, x.p10, x.p11, x.p12, (u.r : Nat), (u.c : Nat), (u.b : Nat), (u.p : Nat), x.p17, x.p18, x.p19, x.p20⟩), .int .i64 4, .pointer (some ⟨b1, 10, none⟩), .int .i64 4, .bool false, .bool false, .bool false, undef, undef, .bool false, .bool false, undef, undef, undef, undef, undef, .bool true, .bool true, .tuple #[.agg (poA Q), .bool an], .agg (poA ⟨x.p0, x.p1, x.p2, x.p3, x.p4, x.p5, x.p6, x.p7, x.p8, x.p9, x.p10, x.p11, x.p12, (u.r : Nat), (u.c : Nat), (u.b : Nat), (u.p : Nat), x.p17, x.p18, x.p19, x.p20⟩), .agg (vcA v), .agg (cfA c), .tuple #[.agg (poA Q), .bool an], .agg (poA Q), .bool an, bif L 0 then .agg (poA Q) else undef, bif L 1 then .bool an else undef, bif L 2 then .agg (poA ⟨x.p0, x.p1, x.p2, x.p3, x.p4, x.p5, x.p6, x.p7, x.p8, x.p9, x.p10, x.p11, x.p12, (u.r : Nat), (u.c : Nat), (u.b : Nat), (u.p : Nat), x.p17, x.p18, x.p19, x.p20⟩) else undef, bif L 3 then .agg (poA Q) else undef, bif L 4 then .bool op else undef], defers := [] }
/-- The slots, while the region runs. -/
def AsA6 (x Q : Po) (u v : Vc) (c : Cf) (r : Int) (op : Bool) (b1 b2 b3 b4 b5 : Nat) (L : Nat → Bool) : Act := { tmps := #[.agg (poA ⟨x.p0, x.p1, x.p2, x.p3, x.p4, x.p5, x.p6, x.p7, x.p8, x.p9, x.p10, x.p11, x.p12, (u.r : Nat), (u.c : Nat), (u.b : Nat), (u.p : Nat), x.p17, x.p18, x.p19, x.p20⟩), .int .i64 r, .agg (vcA v), .agg (cfA c), .pointer (some ⟨b1, 0, none⟩), undef, .pointer (some ⟨b2, 0, none⟩), .pointer (some ⟨b3, 0, none⟩), .pointer (some ⟨b4, 0, none⟩), bif L 6 then .bool false else .bool false, bif L 7 then .bool op else .bool false, .pointer (some ⟨b5, 0, none⟩), .bool false, .agg (poA ⟨x.p0, x.p1, x.p2, x.p3, x.p4, x.p5, x.p6, x.p7, x.p8, x.p9, x.p10, x.p11, x.p12, (u.r : Nat), (u.c : Nat), (u.b : Nat), (u.p : Nat), x.p17, x.p18, x.p19, x.p20⟩), .int .i64 r, .pointer (some ⟨b1, 10, none⟩), .int .i64 r, .bool false, .bool false, .bool false, undef, undef, .bool false, .bool false, undef, undef, undef, undef, undef, .bool false, .bool false, undef, undef, undef, undef, undef, undef, undef, bif L 0 then .agg (poA Q) else undef, bif L 1 then .bool false else undef, bif L 2 then .agg (poA ⟨x.p0, x.p1, x.p2, x.p3, x.p4, x.p5, x.p6, x.p7, x.p8, x.p9, x.p10, x.p11, x.p12, (u.r : Nat), (u.c : Nat), (u.b : Nat), (u.p : Nat), x.p17, x.p18, x.p19, x.p20⟩) else undef, bif L 3 then .agg (poA Q) else undef, bif L 4 then .bool op else undef], defers := [] }
set_option maxRecDepth 100000 in
set_option maxHeartbeats 8000000 in
theorem assume_any (x : Po) (u : Vc) (r : Int) (v : Vc) (c : Cf) (w : World) : Calls Try.prog 9 #[poV (poU x u), .int .i64 r, vcV v, cfV c] w fun e w' => e = .returned (.tuple #[poV (assumeP x u r v c.p3), .bool (assumeN x u r v), .bool (openedB x (assumeP x u r v c.p3))]) ∧ Below w.heap.size w w' := by
  obtain ⟨Q, hQ⟩ : ∃ Q, Q = assumeP x u r v c.p3 := ⟨_, rfl⟩
  obtain ⟨an, hA⟩ : ∃ b, b = assumeN x u r v := ⟨_, rfl⟩
  obtain ⟨op, hO⟩ : ∃ b, b = openedB x Q := ⟨_, rfl⟩
  rw [← hQ, ← hA, ← hO]
  have HO := Lib.hid (show openedB (poU x u) Q = op from hO.symm)
  clear hO
  unfold poU at HO ⊢
  by_cases h1 : r = 1
  case pos =>
    have hq : Q = restP (roleP x u 1) 0 := by rw [hQ]; simp [assumeP, h1]
    have ha : an = false := by rw [hA]; simp [assumeN, h1]
    clear hQ hA
    subst ha
    subst h1
    have HQ := Lib.hid hq
    clear hq
    have K := Lib.hid (Kb.nil w)
    go_enter Try.func9, Try.ntmps9
    go_upto_region 0 with fail
    refine wp_region_lit ?_
    refine kb_box K.out 42 (.tmp 0) (poA ⟨x.p0, x.p1, x.p2, x.p3, x.p4, x.p5, x.p6, x.p7, x.p8, x.p9, x.p10, x.p11, x.p12, (u.r : Nat), (u.c : Nat), (u.b : Nat), (u.p : Nat), x.p17, x.p18, x.p19, x.p20⟩) rfl rfl (by rfl) ?_
    intro b1 w1 hb1 hk
    have K1 := Lib.hid (show Kb w [(b1, poA ⟨x.p0, x.p1, x.p2, x.p3, x.p4, x.p5, x.p6, x.p7, x.p8, x.p9, x.p10, x.p11, x.p12, (u.r : Nat), (u.c : Nat), (u.b : Nat), (u.p : Nat), x.p17, x.p18, x.p19, x.p20⟩, 42)] w1 from hk)
    clear hk hb1
    (try simp only [Act.put, gA, gS, gZ, sA, sZ, sS])
    refine kb_box K1.out 35 (.tmp 2) (vcA v) rfl rfl (by rfl) ?_
    intro b2 w2 hb2 hk
    have K2 := Lib.hid (show Kb w [(b1, poA ⟨x.p0, x.p1, x.p2, x.p3, x.p4, x.p5, x.p6, x.p7, x.p8, x.p9, x.p10, x.p11, x.p12, (u.r : Nat), (u.c : Nat), (u.b : Nat), (u.p : Nat), x.p17, x.p18, x.p19, x.p20⟩, 42), (b2, vcA v, 35)] w2 from hk)
    clear hk hb2
    (try simp only [Act.put, gA, gS, gZ, sA, sZ, sS])
    refine kb_box K2.out 38 (.tmp 3) (cfA c) rfl rfl (by rfl) ?_
    intro b3 w3 hb3 hk
    have K3 := Lib.hid (show Kb w [(b1, poA ⟨x.p0, x.p1, x.p2, x.p3, x.p4, x.p5, x.p6, x.p7, x.p8, x.p9, x.p10, x.p11, x.p12, (u.r : Nat), (u.c : Nat), (u.b : Nat), (u.p : Nat), x.p17, x.p18, x.p19, x.p20⟩, 42), (b2, vcA v, 35), (b3, cfA c, 38)] w3 from hk)
    clear hk hb3
    (try simp only [Act.put, gA, gS, gZ, sA, sZ, sS])
    refine kb_alloc K3.out 42 (nil21) rfl z50 (by rfl) ?_
    intro b4 w4 hb4 hk
    have K4 := Lib.hid (show Kb w [(b1, poA ⟨x.p0, x.p1, x.p2, x.p3, x.p4, x.p5, x.p6, x.p7, x.p8, x.p9, x.p10, x.p11, x.p12, (u.r : Nat), (u.c : Nat), (u.b : Nat), (u.p : Nat), x.p17, x.p18, x.p19, x.p20⟩, 42), (b2, vcA v, 35), (b3, cfA c, 38), (b4, nil21, 42)] w4 from hk)
    clear hk hb4
    (try simp only [Act.put, gA, gS, gZ, sA, sZ, sS])
    refine wv (.bool false) ?_
    (try simp only [Act.put, gA, gS, gZ, sA, sZ, sS])
    refine wv (.bool false) ?_
    (try simp only [Act.put, gA, gS, gZ, sA, sZ, sS])
    refine wpList_nil ?_
    go_upto_region 1 with fail
    refine wp_region_lit ?_
    refine wv (.agg (poA ⟨x.p0, x.p1, x.p2, x.p3, x.p4, x.p5, x.p6, x.p7, x.p8, x.p9, x.p10, x.p11, x.p12, (u.r : Nat), (u.c : Nat), (u.b : Nat), (u.p : Nat), x.p17, x.p18, x.p19, x.p20⟩)) ?_ (hrun := kb_all K4.out 0 rfl 42 _ rfl rfl Try.underlying42 rfl (size50))
    (try simp only [Act.put, gA, gS, gZ, sA, sZ, sS])
    refine kb_alloc K4.out 42 (nil21) rfl z50 (by rfl) ?_
    intro b5 w5 hb5 hk
    have K5 := Lib.hid (show Kb w [(b1, poA ⟨x.p0, x.p1, x.p2, x.p3, x.p4, x.p5, x.p6, x.p7, x.p8, x.p9, x.p10, x.p11, x.p12, (u.r : Nat), (u.c : Nat), (u.b : Nat), (u.p : Nat), x.p17, x.p18, x.p19, x.p20⟩, 42), (b2, vcA v, 35), (b3, cfA c, 38), (b4, nil21, 42), (b5, nil21, 42)] w5 from hk)
    clear hk hb5
    (try simp only [Act.put, gA, gS, gZ, sA, sZ, sS])
    refine kb_row K5.out 4 rfl 42 _ _ (poA ⟨x.p0, x.p1, x.p2, x.p3, x.p4, x.p5, x.p6, x.p7, x.p8, x.p9, x.p10, x.p11, x.p12, (u.r : Nat), (u.c : Nat), (u.b : Nat), (u.p : Nat), x.p17, x.p18, x.p19, x.p20⟩) rfl rfl rfl rfl (size50) (by rfl) (po_all _) ?_
    intro w6 hk
    have K6 := Lib.hid (show Kb w [(b1, poA ⟨x.p0, x.p1, x.p2, x.p3, x.p4, x.p5, x.p6, x.p7, x.p8, x.p9, x.p10, x.p11, x.p12, (u.r : Nat), (u.c : Nat), (u.b : Nat), (u.p : Nat), x.p17, x.p18, x.p19, x.p20⟩, 42), (b2, vcA v, 35), (b3, cfA c, 38), (b4, nil21, 42), (b5, poA ⟨x.p0, x.p1, x.p2, x.p3, x.p4, x.p5, x.p6, x.p7, x.p8, x.p9, x.p10, x.p11, x.p12, (u.r : Nat), (u.c : Nat), (u.b : Nat), (u.p : Nat), x.p17, x.p18, x.p19, x.p20⟩, 42)] w6 from hk)
    clear hk
    (try simp only [Act.put, gA, gS, gZ, sA, sZ, sS])
    refine wv (.bool false) ?_
    (try simp only [Act.put, gA, gS, gZ, sA, sZ, sS])
    refine wpList_nil ?_
    go_upto_region 2 with fail
    refine wp_region_lit ?_
    refine wv (.int .i64 1) ?_
    (try simp only [Act.put, gA, gS, gZ, sA, sZ, sS])
    refine wv (.pointer (some ⟨b1, 10, none⟩)) ?_
    (try simp only [Act.put, gA, gS, gZ, sA, sZ, sS])
    refine kb_set K6.out 0 rfl 3 _ _ 10 (.int .i64 1) rfl (by rfl) rfl rfl (kb_run_set K6.out (i := 0) rfl 3 10 (.int .i64 x.p10) (.int .i64 1) (by rfl) (fun W h1 h2 => by go_simp)) (poA ⟨x.p0, x.p1, x.p2, x.p3, x.p4, x.p5, x.p6, x.p7, x.p8, x.p9, 1, x.p11, x.p12, (u.r : Nat), (u.c : Nat), (u.b : Nat), (u.p : Nat), x.p17, x.p18, x.p19, x.p20⟩) (by kernel_rfl) ?_
    intro w7 hk
    have K7 := Lib.hid (show Kb w [(b1, poA ⟨x.p0, x.p1, x.p2, x.p3, x.p4, x.p5, x.p6, x.p7, x.p8, x.p9, 1, x.p11, x.p12, (u.r : Nat), (u.c : Nat), (u.b : Nat), (u.p : Nat), x.p17, x.p18, x.p19, x.p20⟩, 42), (b2, vcA v, 35), (b3, cfA c, 38), (b4, nil21, 42), (b5, poA ⟨x.p0, x.p1, x.p2, x.p3, x.p4, x.p5, x.p6, x.p7, x.p8, x.p9, x.p10, x.p11, x.p12, (u.r : Nat), (u.c : Nat), (u.b : Nat), (u.p : Nat), x.p17, x.p18, x.p19, x.p20⟩, 42)] w7 from hk)
    clear hk
    (try simp only [Act.put, gA, gS, gZ, sA, sZ, sS])
    refine wpList_nil ?_
    go_upto_region 3 with fail
    refine wp_region_lit ?_
    refine wv (.int .i64 1) ?_
    (try simp only [Act.put, gA, gS, gZ, sA, sZ, sS])
    refine wpList_nil ?_
    go_upto_region 4 with fail
    refine wp_region_lit ?_
    refine wv (.bool true) ?_
    (try simp only [Act.put, gA, gS, gZ, sA, sZ, sS])
    refine wv (.bool true) ?_
    (try simp only [Act.put, gA, gS, gZ, sA, sZ, sS])
    refine wpList_nil ?_
    go_upto_region 6 with fail
    refine wp_region_lit ?_
    refine wv (.agg (poA ⟨x.p0, x.p1, x.p2, x.p3, x.p4, x.p5, x.p6, x.p7, x.p8, x.p9, 1, x.p11, x.p12, (u.r : Nat), (u.c : Nat), (u.b : Nat), (u.p : Nat), x.p17, x.p18, x.p19, x.p20⟩)) ?_ (hrun := kb_all K7.out 0 rfl 42 _ rfl rfl Try.underlying42 rfl (size50))
    (try simp only [Act.put, gA, gS, gZ, sA, sZ, sS])
    refine kb_call K7.out 14 #[.agg (poA ⟨x.p0, x.p1, x.p2, x.p3, x.p4, x.p5, x.p6, x.p7, x.p8, x.p9, 1, x.p11, x.p12, (u.r : Nat), (u.c : Nat), (u.b : Nat), (u.p : Nat), x.p17, x.p18, x.p19, x.p20⟩), .int .i64 0] (.agg (poA Q)) (by rfl) (by go_simp) (rest_is ⟨x.p0, x.p1, x.p2, x.p3, x.p4, x.p5, x.p6, x.p7, x.p8, x.p9, 1, x.p11, x.p12, (u.r : Nat), (u.c : Nat), (u.b : Nat), (u.p : Nat), x.p17, x.p18, x.p19, x.p20⟩ 0 Q HQ.out.symm w7) ?_
    intro w8 hk
    have K8 := Lib.hid (show Kb w [(b1, poA ⟨x.p0, x.p1, x.p2, x.p3, x.p4, x.p5, x.p6, x.p7, x.p8, x.p9, 1, x.p11, x.p12, (u.r : Nat), (u.c : Nat), (u.b : Nat), (u.p : Nat), x.p17, x.p18, x.p19, x.p20⟩, 42), (b2, vcA v, 35), (b3, cfA c, 38), (b4, nil21, 42), (b5, poA ⟨x.p0, x.p1, x.p2, x.p3, x.p4, x.p5, x.p6, x.p7, x.p8, x.p9, x.p10, x.p11, x.p12, (u.r : Nat), (u.c : Nat), (u.b : Nat), (u.p : Nat), x.p17, x.p18, x.p19, x.p20⟩, 42)] w8 from hk)
    clear hk
    (try simp only [Act.put, gA, gS, gZ, sA, sZ, sS])
    refine kb_row K8.out 0 rfl 42 _ _ (poA Q) rfl rfl rfl rfl (size50) (by rfl) (po_all _) ?_
    intro w9 hk
    have K9 := Lib.hid (show Kb w [(b1, poA Q, 42), (b2, vcA v, 35), (b3, cfA c, 38), (b4, nil21, 42), (b5, poA ⟨x.p0, x.p1, x.p2, x.p3, x.p4, x.p5, x.p6, x.p7, x.p8, x.p9, x.p10, x.p11, x.p12, (u.r : Nat), (u.c : Nat), (u.b : Nat), (u.p : Nat), x.p17, x.p18, x.p19, x.p20⟩, 42)] w9 from hk)
    clear hk
    (try simp only [Act.put, gA, gS, gZ, sA, sZ, sS])
    refine wpList_nil ?_
    go_upto_region 12 with fail
    refine wp_region_inv_dc (I := fun L ac w' => ac = AsA1 x Q u v c op b1 b2 b3 b4 b5 L ∧ Kb w [(b1, poA Q, 42), (b2, vcA v, 35), (b3, cfA c, 38), (b4, bif L 5 then poA Q else nil21, 42), (b5, poA ⟨x.p0, x.p1, x.p2, x.p3, x.p4, x.p5, x.p6, x.p7, x.p8, x.p9, x.p10, x.p11, x.p12, (u.r : Nat), (u.c : Nat), (u.b : Nat), (u.p : Nat), x.p17, x.p18, x.p19, x.p20⟩, 42)] w') (by kernel_rfl) (by kernel_rfl) ⟨by kernel_rfl, K9.out.drew⟩ ?_ ?_
    · intro i hi Lx ac w' hI hL haft hdc
      obtain ⟨rfl, hw⟩ := hI
      match i, hi with
      | 0, _ =>
        have g4 : (AsA1 x Q u v c op b1 b2 b3 b4 b5 Lx).tmps[4]?.getD undef = .pointer (some ⟨b1, 0, none⟩) := by kernel_rfl
        have e4 : (AsA1 x Q u v c op b1 b2 b3 b4 b5 Lx).eval (.tmp 4) = .pointer (some ⟨b1, 0, none⟩) := by kernel_rfl
        exact i_val rfl (.agg (poA Q)) w' (by rfl) (kb_all hw 0 rfl 42 _ rfl e4 Try.underlying42 rfl (size50)) ⟨by kernel_rfl, hw⟩
      | 1, _ =>
        have g12 : (AsA1 x Q u v c op b1 b2 b3 b4 b5 Lx).tmps[12]?.getD undef = .bool false := by kernel_rfl
        have e12 : (AsA1 x Q u v c op b1 b2 b3 b4 b5 Lx).eval (.tmp 12) = .bool false := by kernel_rfl
        exact i_val rfl (.bool false) w' (by rfl) (by go_simp) ⟨by kernel_rfl, hw⟩
      | 2, _ =>
        have g11 : (AsA1 x Q u v c op b1 b2 b3 b4 b5 Lx).tmps[11]?.getD undef = .pointer (some ⟨b5, 0, none⟩) := by kernel_rfl
        have e11 : (AsA1 x Q u v c op b1 b2 b3 b4 b5 Lx).eval (.tmp 11) = .pointer (some ⟨b5, 0, none⟩) := by kernel_rfl
        exact i_val rfl (.agg (poA ⟨x.p0, x.p1, x.p2, x.p3, x.p4, x.p5, x.p6, x.p7, x.p8, x.p9, x.p10, x.p11, x.p12, (u.r : Nat), (u.c : Nat), (u.b : Nat), (u.p : Nat), x.p17, x.p18, x.p19, x.p20⟩)) w' (by rfl) (kb_all hw 4 rfl 42 _ rfl e11 Try.underlying42 rfl (size50)) ⟨by kernel_rfl, hw⟩
      | 3, _ =>
        have g4 : (AsA1 x Q u v c op b1 b2 b3 b4 b5 Lx).tmps[4]?.getD undef = .pointer (some ⟨b1, 0, none⟩) := by kernel_rfl
        have e4 : (AsA1 x Q u v c op b1 b2 b3 b4 b5 Lx).eval (.tmp 4) = .pointer (some ⟨b1, 0, none⟩) := by kernel_rfl
        exact i_val rfl (.agg (poA Q)) w' (by rfl) (kb_all hw 0 rfl 42 _ rfl e4 Try.underlying42 rfl (size50)) ⟨by kernel_rfl, hw⟩
      | 4, _ =>
        have h2 := haft 2 (by decide)
        have e40 : (AsA1 x Q u v c op b1 b2 b3 b4 b5 Lx).eval (.tmp 40) = .agg (poA ⟨x.p0, x.p1, x.p2, x.p3, x.p4, x.p5, x.p6, x.p7, x.p8, x.p9, x.p10, x.p11, x.p12, (u.r : Nat), (u.c : Nat), (u.b : Nat), (u.p : Nat), x.p17, x.p18, x.p19, x.p20⟩) := by show (bif Lx 2 then _ else _) = _; rw [h2]; rfl
        have g40 : (AsA1 x Q u v c op b1 b2 b3 b4 b5 Lx).tmps[40]?.getD undef = .agg (poA ⟨x.p0, x.p1, x.p2, x.p3, x.p4, x.p5, x.p6, x.p7, x.p8, x.p9, x.p10, x.p11, x.p12, (u.r : Nat), (u.c : Nat), (u.b : Nat), (u.p : Nat), x.p17, x.p18, x.p19, x.p20⟩) := by show (bif Lx 2 then _ else _) = _; rw [h2]; rfl
        have h3 := haft 3 (by decide)
        have e41 : (AsA1 x Q u v c op b1 b2 b3 b4 b5 Lx).eval (.tmp 41) = .agg (poA Q) := by show (bif Lx 3 then _ else _) = _; rw [h3]; rfl
        have g41 : (AsA1 x Q u v c op b1 b2 b3 b4 b5 Lx).tmps[41]?.getD undef = .agg (poA Q) := by show (bif Lx 3 then _ else _) = _; rw [h3]; rfl
        exact i_call rfl (.bool op) 16 #[.agg (poA ⟨x.p0, x.p1, x.p2, x.p3, x.p4, x.p5, x.p6, x.p7, x.p8, x.p9, x.p10, x.p11, x.p12, (u.r : Nat), (u.c : Nat), (u.b : Nat), (u.p : Nat), x.p17, x.p18, x.p19, x.p20⟩), .agg (poA Q)] (fun w2 => Below w'.heap.size w' w2) (by rfl) (by go_simp) (opened_is ⟨x.p0, x.p1, x.p2, x.p3, x.p4, x.p5, x.p6, x.p7, x.p8, x.p9, x.p10, x.p11, x.p12, (u.r : Nat), (u.c : Nat), (u.b : Nat), (u.p : Nat), x.p17, x.p18, x.p19, x.p20⟩ Q op HO.out w') (fun w2 hb => ⟨by kernel_rfl, hw.next hb⟩)
      | 5, _ =>
        have g8 : (AsA1 x Q u v c op b1 b2 b3 b4 b5 Lx).tmps[8]?.getD undef = .pointer (some ⟨b4, 0, none⟩) := by kernel_rfl
        have e8 : (AsA1 x Q u v c op b1 b2 b3 b4 b5 Lx).eval (.tmp 8) = .pointer (some ⟨b4, 0, none⟩) := by kernel_rfl
        have h0 := haft 0 (by decide)
        have e38 : (AsA1 x Q u v c op b1 b2 b3 b4 b5 Lx).eval (.tmp 38) = .agg (poA Q) := by show (bif Lx 0 then _ else _) = _; rw [h0]; rfl
        have g38 : (AsA1 x Q u v c op b1 b2 b3 b4 b5 Lx).tmps[38]?.getD undef = .agg (poA Q) := by show (bif Lx 0 then _ else _) = _; rw [h0]; rfl
        exact i_wp rfl (by rfl) (wp_store_row 42 _ _ rfl b4 (poA Q) e8 e38 42 (bif Lx 5 then poA Q else nil21) (Kb.at (i := 3) hw rfl) (size50) (by rw [hL]; rfl) (po_all _) ⟨by kernel_rfl, cast_blk (Kb.row (i := 3) hw rfl (poA Q)) (by rfl)⟩)
      | 6, _ =>
        have h1 := haft 1 (by decide)
        have e39 : (AsA1 x Q u v c op b1 b2 b3 b4 b5 Lx).eval (.tmp 39) = .bool false := by show (bif Lx 1 then _ else _) = _; rw [h1]; rfl
        have g39 : (AsA1 x Q u v c op b1 b2 b3 b4 b5 Lx).tmps[39]?.getD undef = .bool false := by show (bif Lx 1 then _ else _) = _; rw [h1]; rfl
        exact i_val rfl (.bool false) w' (by rfl) (by go_simp) ⟨by kernel_rfl, hw⟩
      | 7, _ =>
        have h4 := haft 4 (by decide)
        have e42 : (AsA1 x Q u v c op b1 b2 b3 b4 b5 Lx).eval (.tmp 42) = .bool op := by show (bif Lx 4 then _ else _) = _; rw [h4]; rfl
        have g42 : (AsA1 x Q u v c op b1 b2 b3 b4 b5 Lx).tmps[42]?.getD undef = .bool op := by show (bif Lx 4 then _ else _) = _; rw [h4]; rfl
        exact i_val rfl (.bool op) w' (by rfl) (by go_simp) ⟨by kernel_rfl, hw⟩
      | k + 8, h =>
        exfalso
        have h2 : k + 8 < 8 := h
        omega
    intro Lx ac w10 hI hall
    obtain ⟨rfl, hw⟩ := hI
    have hfr : AsA1 x Q u v c op b1 b2 b3 b4 b5 Lx = { tmps := #[.agg (poA ⟨x.p0, x.p1, x.p2, x.p3, x.p4, x.p5, x.p6, x.p7, x.p8, x.p9, x.p10, x.p11, x.p12, (u.r : Nat), (u.c : Nat), (u.b : Nat), (u.p : Nat), x.p17, x.p18, x.p19, x.p20⟩), .int .i64 1, .agg (vcA v), .agg (cfA c), .pointer (some ⟨b1, 0, none⟩), undef, .pointer (some ⟨b2, 0, none⟩), .pointer (some ⟨b3, 0, none⟩), .pointer (some ⟨b4, 0, none⟩), .bool false, .bool op, .pointer (some ⟨b5, 0, none⟩), .bool false, .agg (poA ⟨x.p0, x.p1, x.p2, x.p3, x.p4, x.p5, x.p6, x.p7, x.p8, x.p9, x.p10, x.p11, x.p12, (u.r : Nat), (u.c : Nat), (u.b : Nat), (u.p : Nat), x.p17, x.p18, x.p19, x.p20⟩), .int .i64 1, .pointer (some ⟨b1, 10, none⟩), .int .i64 1, .bool true, .bool true, undef, .agg (poA ⟨x.p0, x.p1, x.p2, x.p3, x.p4, x.p5, x.p6, x.p7, x.p8, x.p9, 1, x.p11, x.p12, (u.r : Nat), (u.c : Nat), (u.b : Nat), (u.p : Nat), x.p17, x.p18, x.p19, x.p20⟩), .agg (poA Q), undef, undef, undef, undef, undef, undef, undef, undef, undef, undef, undef, undef, undef, undef, undef, undef, .agg (poA Q), .bool false, .agg (poA ⟨x.p0, x.p1, x.p2, x.p3, x.p4, x.p5, x.p6, x.p7, x.p8, x.p9, x.p10, x.p11, x.p12, (u.r : Nat), (u.c : Nat), (u.b : Nat), (u.p : Nat), x.p17, x.p18, x.p19, x.p20⟩), .agg (poA Q), .bool op], defers := [] } := by unfold AsA1; simp only [hall 0 (by decide), hall 1 (by decide), hall 2 (by decide), hall 3 (by decide), hall 4 (by decide), hall 6 (by decide), hall 7 (by decide), cond_true]
    rw [hfr]
    clear hfr
    have hL5 := hall 5 (by decide)
    simp only [hL5, cond_true] at hw
    have K10 := Lib.hid (show Kb w [(b1, poA Q, 42), (b2, vcA v, 35), (b3, cfA c, 38), (b4, poA Q, 42), (b5, poA ⟨x.p0, x.p1, x.p2, x.p3, x.p4, x.p5, x.p6, x.p7, x.p8, x.p9, x.p10, x.p11, x.p12, (u.r : Nat), (u.c : Nat), (u.b : Nat), (u.p : Nat), x.p17, x.p18, x.p19, x.p20⟩, 42)] w10 from hw)
    clear hw hall hL5
    go_wp2_with fail
    refine bodyPost_ret (v := .tuple #[.agg (poA Q), .bool false, .bool op]) (results_row_tmp2 Try.results9 _ _ b4 42 (poA Q) (.bool false) (.bool op) _ rfl rfl rfl (K10.out.at (i := 3) rfl) Try.underlying42 rfl (po_info _)) rfl ?_
    exact ⟨rfl, K10.out.below⟩
  case neg =>
    by_cases h2 : r = 2
    case pos =>
      have hq : Q = restP (roleP x u 2) 0 := by rw [hQ]; simp [assumeP, h1, h2]
      have ha : an = false := by rw [hA]; simp [assumeN, h1, h2]
      clear hQ hA
      subst ha
      subst h2
      have HQ := Lib.hid hq
      clear hq
      have K := Lib.hid (Kb.nil w)
      go_enter Try.func9, Try.ntmps9
      go_upto_region 0 with fail
      refine wp_region_lit ?_
      refine kb_box K.out 42 (.tmp 0) (poA ⟨x.p0, x.p1, x.p2, x.p3, x.p4, x.p5, x.p6, x.p7, x.p8, x.p9, x.p10, x.p11, x.p12, (u.r : Nat), (u.c : Nat), (u.b : Nat), (u.p : Nat), x.p17, x.p18, x.p19, x.p20⟩) rfl rfl (by rfl) ?_
      intro b1 w1 hb1 hk
      have K1 := Lib.hid (show Kb w [(b1, poA ⟨x.p0, x.p1, x.p2, x.p3, x.p4, x.p5, x.p6, x.p7, x.p8, x.p9, x.p10, x.p11, x.p12, (u.r : Nat), (u.c : Nat), (u.b : Nat), (u.p : Nat), x.p17, x.p18, x.p19, x.p20⟩, 42)] w1 from hk)
      clear hk hb1
      (try simp only [Act.put, gA, gS, gZ, sA, sZ, sS])
      refine kb_box K1.out 35 (.tmp 2) (vcA v) rfl rfl (by rfl) ?_
      intro b2 w2 hb2 hk
      have K2 := Lib.hid (show Kb w [(b1, poA ⟨x.p0, x.p1, x.p2, x.p3, x.p4, x.p5, x.p6, x.p7, x.p8, x.p9, x.p10, x.p11, x.p12, (u.r : Nat), (u.c : Nat), (u.b : Nat), (u.p : Nat), x.p17, x.p18, x.p19, x.p20⟩, 42), (b2, vcA v, 35)] w2 from hk)
      clear hk hb2
      (try simp only [Act.put, gA, gS, gZ, sA, sZ, sS])
      refine kb_box K2.out 38 (.tmp 3) (cfA c) rfl rfl (by rfl) ?_
      intro b3 w3 hb3 hk
      have K3 := Lib.hid (show Kb w [(b1, poA ⟨x.p0, x.p1, x.p2, x.p3, x.p4, x.p5, x.p6, x.p7, x.p8, x.p9, x.p10, x.p11, x.p12, (u.r : Nat), (u.c : Nat), (u.b : Nat), (u.p : Nat), x.p17, x.p18, x.p19, x.p20⟩, 42), (b2, vcA v, 35), (b3, cfA c, 38)] w3 from hk)
      clear hk hb3
      (try simp only [Act.put, gA, gS, gZ, sA, sZ, sS])
      refine kb_alloc K3.out 42 (nil21) rfl z50 (by rfl) ?_
      intro b4 w4 hb4 hk
      have K4 := Lib.hid (show Kb w [(b1, poA ⟨x.p0, x.p1, x.p2, x.p3, x.p4, x.p5, x.p6, x.p7, x.p8, x.p9, x.p10, x.p11, x.p12, (u.r : Nat), (u.c : Nat), (u.b : Nat), (u.p : Nat), x.p17, x.p18, x.p19, x.p20⟩, 42), (b2, vcA v, 35), (b3, cfA c, 38), (b4, nil21, 42)] w4 from hk)
      clear hk hb4
      (try simp only [Act.put, gA, gS, gZ, sA, sZ, sS])
      refine wv (.bool false) ?_
      (try simp only [Act.put, gA, gS, gZ, sA, sZ, sS])
      refine wv (.bool false) ?_
      (try simp only [Act.put, gA, gS, gZ, sA, sZ, sS])
      refine wpList_nil ?_
      go_upto_region 1 with fail
      refine wp_region_lit ?_
      refine wv (.agg (poA ⟨x.p0, x.p1, x.p2, x.p3, x.p4, x.p5, x.p6, x.p7, x.p8, x.p9, x.p10, x.p11, x.p12, (u.r : Nat), (u.c : Nat), (u.b : Nat), (u.p : Nat), x.p17, x.p18, x.p19, x.p20⟩)) ?_ (hrun := kb_all K4.out 0 rfl 42 _ rfl rfl Try.underlying42 rfl (size50))
      (try simp only [Act.put, gA, gS, gZ, sA, sZ, sS])
      refine kb_alloc K4.out 42 (nil21) rfl z50 (by rfl) ?_
      intro b5 w5 hb5 hk
      have K5 := Lib.hid (show Kb w [(b1, poA ⟨x.p0, x.p1, x.p2, x.p3, x.p4, x.p5, x.p6, x.p7, x.p8, x.p9, x.p10, x.p11, x.p12, (u.r : Nat), (u.c : Nat), (u.b : Nat), (u.p : Nat), x.p17, x.p18, x.p19, x.p20⟩, 42), (b2, vcA v, 35), (b3, cfA c, 38), (b4, nil21, 42), (b5, nil21, 42)] w5 from hk)
      clear hk hb5
      (try simp only [Act.put, gA, gS, gZ, sA, sZ, sS])
      refine kb_row K5.out 4 rfl 42 _ _ (poA ⟨x.p0, x.p1, x.p2, x.p3, x.p4, x.p5, x.p6, x.p7, x.p8, x.p9, x.p10, x.p11, x.p12, (u.r : Nat), (u.c : Nat), (u.b : Nat), (u.p : Nat), x.p17, x.p18, x.p19, x.p20⟩) rfl rfl rfl rfl (size50) (by rfl) (po_all _) ?_
      intro w6 hk
      have K6 := Lib.hid (show Kb w [(b1, poA ⟨x.p0, x.p1, x.p2, x.p3, x.p4, x.p5, x.p6, x.p7, x.p8, x.p9, x.p10, x.p11, x.p12, (u.r : Nat), (u.c : Nat), (u.b : Nat), (u.p : Nat), x.p17, x.p18, x.p19, x.p20⟩, 42), (b2, vcA v, 35), (b3, cfA c, 38), (b4, nil21, 42), (b5, poA ⟨x.p0, x.p1, x.p2, x.p3, x.p4, x.p5, x.p6, x.p7, x.p8, x.p9, x.p10, x.p11, x.p12, (u.r : Nat), (u.c : Nat), (u.b : Nat), (u.p : Nat), x.p17, x.p18, x.p19, x.p20⟩, 42)] w6 from hk)
      clear hk
      (try simp only [Act.put, gA, gS, gZ, sA, sZ, sS])
      refine wv (.bool false) ?_
      (try simp only [Act.put, gA, gS, gZ, sA, sZ, sS])
      refine wpList_nil ?_
      go_upto_region 2 with fail
      refine wp_region_lit ?_
      refine wv (.int .i64 2) ?_
      (try simp only [Act.put, gA, gS, gZ, sA, sZ, sS])
      refine wv (.pointer (some ⟨b1, 10, none⟩)) ?_
      (try simp only [Act.put, gA, gS, gZ, sA, sZ, sS])
      refine kb_set K6.out 0 rfl 3 _ _ 10 (.int .i64 2) rfl (by rfl) rfl rfl (kb_run_set K6.out (i := 0) rfl 3 10 (.int .i64 x.p10) (.int .i64 2) (by rfl) (fun W h1 h2 => by go_simp)) (poA ⟨x.p0, x.p1, x.p2, x.p3, x.p4, x.p5, x.p6, x.p7, x.p8, x.p9, 2, x.p11, x.p12, (u.r : Nat), (u.c : Nat), (u.b : Nat), (u.p : Nat), x.p17, x.p18, x.p19, x.p20⟩) (by kernel_rfl) ?_
      intro w7 hk
      have K7 := Lib.hid (show Kb w [(b1, poA ⟨x.p0, x.p1, x.p2, x.p3, x.p4, x.p5, x.p6, x.p7, x.p8, x.p9, 2, x.p11, x.p12, (u.r : Nat), (u.c : Nat), (u.b : Nat), (u.p : Nat), x.p17, x.p18, x.p19, x.p20⟩, 42), (b2, vcA v, 35), (b3, cfA c, 38), (b4, nil21, 42), (b5, poA ⟨x.p0, x.p1, x.p2, x.p3, x.p4, x.p5, x.p6, x.p7, x.p8, x.p9, x.p10, x.p11, x.p12, (u.r : Nat), (u.c : Nat), (u.b : Nat), (u.p : Nat), x.p17, x.p18, x.p19, x.p20⟩, 42)] w7 from hk)
      clear hk
      (try simp only [Act.put, gA, gS, gZ, sA, sZ, sS])
      refine wpList_nil ?_
      go_upto_region 3 with fail
      refine wp_region_lit ?_
      refine wv (.int .i64 2) ?_
      (try simp only [Act.put, gA, gS, gZ, sA, sZ, sS])
      refine wpList_nil ?_
      go_upto_region 4 with fail
      refine wp_region_lit ?_
      refine wv (.bool false) ?_
      (try simp only [Act.put, gA, gS, gZ, sA, sZ, sS])
      refine wv (.bool false) ?_
      (try simp only [Act.put, gA, gS, gZ, sA, sZ, sS])
      refine wpList_nil ?_
      go_upto_region 5 with fail
      refine wp_region_lit ?_
      refine wv (.bool true) ?_
      (try simp only [Act.put, gA, gS, gZ, sA, sZ, sS])
      refine wv (.bool true) ?_
      (try simp only [Act.put, gA, gS, gZ, sA, sZ, sS])
      refine wpList_nil ?_
      go_upto_region 6 with fail
      refine wp_region_lit ?_
      refine wv (.agg (poA ⟨x.p0, x.p1, x.p2, x.p3, x.p4, x.p5, x.p6, x.p7, x.p8, x.p9, 2, x.p11, x.p12, (u.r : Nat), (u.c : Nat), (u.b : Nat), (u.p : Nat), x.p17, x.p18, x.p19, x.p20⟩)) ?_ (hrun := kb_all K7.out 0 rfl 42 _ rfl rfl Try.underlying42 rfl (size50))
      (try simp only [Act.put, gA, gS, gZ, sA, sZ, sS])
      refine kb_call K7.out 14 #[.agg (poA ⟨x.p0, x.p1, x.p2, x.p3, x.p4, x.p5, x.p6, x.p7, x.p8, x.p9, 2, x.p11, x.p12, (u.r : Nat), (u.c : Nat), (u.b : Nat), (u.p : Nat), x.p17, x.p18, x.p19, x.p20⟩), .int .i64 0] (.agg (poA Q)) (by rfl) (by go_simp) (rest_is ⟨x.p0, x.p1, x.p2, x.p3, x.p4, x.p5, x.p6, x.p7, x.p8, x.p9, 2, x.p11, x.p12, (u.r : Nat), (u.c : Nat), (u.b : Nat), (u.p : Nat), x.p17, x.p18, x.p19, x.p20⟩ 0 Q HQ.out.symm w7) ?_
      intro w8 hk
      have K8 := Lib.hid (show Kb w [(b1, poA ⟨x.p0, x.p1, x.p2, x.p3, x.p4, x.p5, x.p6, x.p7, x.p8, x.p9, 2, x.p11, x.p12, (u.r : Nat), (u.c : Nat), (u.b : Nat), (u.p : Nat), x.p17, x.p18, x.p19, x.p20⟩, 42), (b2, vcA v, 35), (b3, cfA c, 38), (b4, nil21, 42), (b5, poA ⟨x.p0, x.p1, x.p2, x.p3, x.p4, x.p5, x.p6, x.p7, x.p8, x.p9, x.p10, x.p11, x.p12, (u.r : Nat), (u.c : Nat), (u.b : Nat), (u.p : Nat), x.p17, x.p18, x.p19, x.p20⟩, 42)] w8 from hk)
      clear hk
      (try simp only [Act.put, gA, gS, gZ, sA, sZ, sS])
      refine kb_row K8.out 0 rfl 42 _ _ (poA Q) rfl rfl rfl rfl (size50) (by rfl) (po_all _) ?_
      intro w9 hk
      have K9 := Lib.hid (show Kb w [(b1, poA Q, 42), (b2, vcA v, 35), (b3, cfA c, 38), (b4, nil21, 42), (b5, poA ⟨x.p0, x.p1, x.p2, x.p3, x.p4, x.p5, x.p6, x.p7, x.p8, x.p9, x.p10, x.p11, x.p12, (u.r : Nat), (u.c : Nat), (u.b : Nat), (u.p : Nat), x.p17, x.p18, x.p19, x.p20⟩, 42)] w9 from hk)
      clear hk
      (try simp only [Act.put, gA, gS, gZ, sA, sZ, sS])
      refine wpList_nil ?_
      go_upto_region 12 with fail
      refine wp_region_inv_dc (I := fun L ac w' => ac = AsA2 x Q u v c op b1 b2 b3 b4 b5 L ∧ Kb w [(b1, poA Q, 42), (b2, vcA v, 35), (b3, cfA c, 38), (b4, bif L 5 then poA Q else nil21, 42), (b5, poA ⟨x.p0, x.p1, x.p2, x.p3, x.p4, x.p5, x.p6, x.p7, x.p8, x.p9, x.p10, x.p11, x.p12, (u.r : Nat), (u.c : Nat), (u.b : Nat), (u.p : Nat), x.p17, x.p18, x.p19, x.p20⟩, 42)] w') (by kernel_rfl) (by kernel_rfl) ⟨by kernel_rfl, K9.out.drew⟩ ?_ ?_
      · intro i hi Lx ac w' hI hL haft hdc
        obtain ⟨rfl, hw⟩ := hI
        match i, hi with
        | 0, _ =>
          have g4 : (AsA2 x Q u v c op b1 b2 b3 b4 b5 Lx).tmps[4]?.getD undef = .pointer (some ⟨b1, 0, none⟩) := by kernel_rfl
          have e4 : (AsA2 x Q u v c op b1 b2 b3 b4 b5 Lx).eval (.tmp 4) = .pointer (some ⟨b1, 0, none⟩) := by kernel_rfl
          exact i_val rfl (.agg (poA Q)) w' (by rfl) (kb_all hw 0 rfl 42 _ rfl e4 Try.underlying42 rfl (size50)) ⟨by kernel_rfl, hw⟩
        | 1, _ =>
          have g12 : (AsA2 x Q u v c op b1 b2 b3 b4 b5 Lx).tmps[12]?.getD undef = .bool false := by kernel_rfl
          have e12 : (AsA2 x Q u v c op b1 b2 b3 b4 b5 Lx).eval (.tmp 12) = .bool false := by kernel_rfl
          exact i_val rfl (.bool false) w' (by rfl) (by go_simp) ⟨by kernel_rfl, hw⟩
        | 2, _ =>
          have g11 : (AsA2 x Q u v c op b1 b2 b3 b4 b5 Lx).tmps[11]?.getD undef = .pointer (some ⟨b5, 0, none⟩) := by kernel_rfl
          have e11 : (AsA2 x Q u v c op b1 b2 b3 b4 b5 Lx).eval (.tmp 11) = .pointer (some ⟨b5, 0, none⟩) := by kernel_rfl
          exact i_val rfl (.agg (poA ⟨x.p0, x.p1, x.p2, x.p3, x.p4, x.p5, x.p6, x.p7, x.p8, x.p9, x.p10, x.p11, x.p12, (u.r : Nat), (u.c : Nat), (u.b : Nat), (u.p : Nat), x.p17, x.p18, x.p19, x.p20⟩)) w' (by rfl) (kb_all hw 4 rfl 42 _ rfl e11 Try.underlying42 rfl (size50)) ⟨by kernel_rfl, hw⟩
        | 3, _ =>
          have g4 : (AsA2 x Q u v c op b1 b2 b3 b4 b5 Lx).tmps[4]?.getD undef = .pointer (some ⟨b1, 0, none⟩) := by kernel_rfl
          have e4 : (AsA2 x Q u v c op b1 b2 b3 b4 b5 Lx).eval (.tmp 4) = .pointer (some ⟨b1, 0, none⟩) := by kernel_rfl
          exact i_val rfl (.agg (poA Q)) w' (by rfl) (kb_all hw 0 rfl 42 _ rfl e4 Try.underlying42 rfl (size50)) ⟨by kernel_rfl, hw⟩
        | 4, _ =>
          have h2 := haft 2 (by decide)
          have e40 : (AsA2 x Q u v c op b1 b2 b3 b4 b5 Lx).eval (.tmp 40) = .agg (poA ⟨x.p0, x.p1, x.p2, x.p3, x.p4, x.p5, x.p6, x.p7, x.p8, x.p9, x.p10, x.p11, x.p12, (u.r : Nat), (u.c : Nat), (u.b : Nat), (u.p : Nat), x.p17, x.p18, x.p19, x.p20⟩) := by show (bif Lx 2 then _ else _) = _; rw [h2]; rfl
          have g40 : (AsA2 x Q u v c op b1 b2 b3 b4 b5 Lx).tmps[40]?.getD undef = .agg (poA ⟨x.p0, x.p1, x.p2, x.p3, x.p4, x.p5, x.p6, x.p7, x.p8, x.p9, x.p10, x.p11, x.p12, (u.r : Nat), (u.c : Nat), (u.b : Nat), (u.p : Nat), x.p17, x.p18, x.p19, x.p20⟩) := by show (bif Lx 2 then _ else _) = _; rw [h2]; rfl
          have h3 := haft 3 (by decide)
          have e41 : (AsA2 x Q u v c op b1 b2 b3 b4 b5 Lx).eval (.tmp 41) = .agg (poA Q) := by show (bif Lx 3 then _ else _) = _; rw [h3]; rfl
          have g41 : (AsA2 x Q u v c op b1 b2 b3 b4 b5 Lx).tmps[41]?.getD undef = .agg (poA Q) := by show (bif Lx 3 then _ else _) = _; rw [h3]; rfl
          exact i_call rfl (.bool op) 16 #[.agg (poA ⟨x.p0, x.p1, x.p2, x.p3, x.p4, x.p5, x.p6, x.p7, x.p8, x.p9, x.p10, x.p11, x.p12, (u.r : Nat), (u.c : Nat), (u.b : Nat), (u.p : Nat), x.p17, x.p18, x.p19, x.p20⟩), .agg (poA Q)] (fun w2 => Below w'.heap.size w' w2) (by rfl) (by go_simp) (opened_is ⟨x.p0, x.p1, x.p2, x.p3, x.p4, x.p5, x.p6, x.p7, x.p8, x.p9, x.p10, x.p11, x.p12, (u.r : Nat), (u.c : Nat), (u.b : Nat), (u.p : Nat), x.p17, x.p18, x.p19, x.p20⟩ Q op HO.out w') (fun w2 hb => ⟨by kernel_rfl, hw.next hb⟩)
        | 5, _ =>
          have g8 : (AsA2 x Q u v c op b1 b2 b3 b4 b5 Lx).tmps[8]?.getD undef = .pointer (some ⟨b4, 0, none⟩) := by kernel_rfl
          have e8 : (AsA2 x Q u v c op b1 b2 b3 b4 b5 Lx).eval (.tmp 8) = .pointer (some ⟨b4, 0, none⟩) := by kernel_rfl
          have h0 := haft 0 (by decide)
          have e38 : (AsA2 x Q u v c op b1 b2 b3 b4 b5 Lx).eval (.tmp 38) = .agg (poA Q) := by show (bif Lx 0 then _ else _) = _; rw [h0]; rfl
          have g38 : (AsA2 x Q u v c op b1 b2 b3 b4 b5 Lx).tmps[38]?.getD undef = .agg (poA Q) := by show (bif Lx 0 then _ else _) = _; rw [h0]; rfl
          exact i_wp rfl (by rfl) (wp_store_row 42 _ _ rfl b4 (poA Q) e8 e38 42 (bif Lx 5 then poA Q else nil21) (Kb.at (i := 3) hw rfl) (size50) (by rw [hL]; rfl) (po_all _) ⟨by kernel_rfl, cast_blk (Kb.row (i := 3) hw rfl (poA Q)) (by rfl)⟩)
        | 6, _ =>
          have h1 := haft 1 (by decide)
          have e39 : (AsA2 x Q u v c op b1 b2 b3 b4 b5 Lx).eval (.tmp 39) = .bool false := by show (bif Lx 1 then _ else _) = _; rw [h1]; rfl
          have g39 : (AsA2 x Q u v c op b1 b2 b3 b4 b5 Lx).tmps[39]?.getD undef = .bool false := by show (bif Lx 1 then _ else _) = _; rw [h1]; rfl
          exact i_val rfl (.bool false) w' (by rfl) (by go_simp) ⟨by kernel_rfl, hw⟩
        | 7, _ =>
          have h4 := haft 4 (by decide)
          have e42 : (AsA2 x Q u v c op b1 b2 b3 b4 b5 Lx).eval (.tmp 42) = .bool op := by show (bif Lx 4 then _ else _) = _; rw [h4]; rfl
          have g42 : (AsA2 x Q u v c op b1 b2 b3 b4 b5 Lx).tmps[42]?.getD undef = .bool op := by show (bif Lx 4 then _ else _) = _; rw [h4]; rfl
          exact i_val rfl (.bool op) w' (by rfl) (by go_simp) ⟨by kernel_rfl, hw⟩
        | k + 8, h =>
          exfalso
          have h2 : k + 8 < 8 := h
          omega
      intro Lx ac w10 hI hall
      obtain ⟨rfl, hw⟩ := hI
      have hfr : AsA2 x Q u v c op b1 b2 b3 b4 b5 Lx = { tmps := #[.agg (poA ⟨x.p0, x.p1, x.p2, x.p3, x.p4, x.p5, x.p6, x.p7, x.p8, x.p9, x.p10, x.p11, x.p12, (u.r : Nat), (u.c : Nat), (u.b : Nat), (u.p : Nat), x.p17, x.p18, x.p19, x.p20⟩), .int .i64 2, .agg (vcA v), .agg (cfA c), .pointer (some ⟨b1, 0, none⟩), undef, .pointer (some ⟨b2, 0, none⟩), .pointer (some ⟨b3, 0, none⟩), .pointer (some ⟨b4, 0, none⟩), .bool false, .bool op, .pointer (some ⟨b5, 0, none⟩), .bool false, .agg (poA ⟨x.p0, x.p1, x.p2, x.p3, x.p4, x.p5, x.p6, x.p7, x.p8, x.p9, x.p10, x.p11, x.p12, (u.r : Nat), (u.c : Nat), (u.b : Nat), (u.p : Nat), x.p17, x.p18, x.p19, x.p20⟩), .int .i64 2, .pointer (some ⟨b1, 10, none⟩), .int .i64 2, .bool true, .bool false, .bool true, .agg (poA ⟨x.p0, x.p1, x.p2, x.p3, x.p4, x.p5, x.p6, x.p7, x.p8, x.p9, 2, x.p11, x.p12, (u.r : Nat), (u.c : Nat), (u.b : Nat), (u.p : Nat), x.p17, x.p18, x.p19, x.p20⟩), .agg (poA Q), undef, undef, undef, undef, undef, undef, undef, undef, undef, undef, undef, undef, undef, undef, undef, undef, .agg (poA Q), .bool false, .agg (poA ⟨x.p0, x.p1, x.p2, x.p3, x.p4, x.p5, x.p6, x.p7, x.p8, x.p9, x.p10, x.p11, x.p12, (u.r : Nat), (u.c : Nat), (u.b : Nat), (u.p : Nat), x.p17, x.p18, x.p19, x.p20⟩), .agg (poA Q), .bool op], defers := [] } := by unfold AsA2; simp only [hall 0 (by decide), hall 1 (by decide), hall 2 (by decide), hall 3 (by decide), hall 4 (by decide), hall 6 (by decide), hall 7 (by decide), cond_true]
      rw [hfr]
      clear hfr
      have hL5 := hall 5 (by decide)
      simp only [hL5, cond_true] at hw
      have K10 := Lib.hid (show Kb w [(b1, poA Q, 42), (b2, vcA v, 35), (b3, cfA c, 38), (b4, poA Q, 42), (b5, poA ⟨x.p0, x.p1, x.p2, x.p3, x.p4, x.p5, x.p6, x.p7, x.p8, x.p9, x.p10, x.p11, x.p12, (u.r : Nat), (u.c : Nat), (u.b : Nat), (u.p : Nat), x.p17, x.p18, x.p19, x.p20⟩, 42)] w10 from hw)
      clear hw hall hL5
      go_wp2_with fail
      refine bodyPost_ret (v := .tuple #[.agg (poA Q), .bool false, .bool op]) (results_row_tmp2 Try.results9 _ _ b4 42 (poA Q) (.bool false) (.bool op) _ rfl rfl rfl (K10.out.at (i := 3) rfl) Try.underlying42 rfl (po_info _)) rfl ?_
      exact ⟨rfl, K10.out.below⟩
    case neg =>
      by_cases h3 : r = 3
      case pos =>
        by_cases h33 : x.p10 = 3
        case pos =>
          have hq : Q = roleP x u 3 := by rw [hQ]; simp [assumeP, h1, h2, h3, h33]
          have ha : an = false := by rw [hA]; simp [assumeN, h1, h2, h3, h33]
          clear hQ hA
          subst ha
          subst h3
          have HQ := Lib.hid hq
          clear hq
          have K := Lib.hid (Kb.nil w)
          go_enter Try.func9, Try.ntmps9
          go_upto_region 0 with fail
          refine wp_region_lit ?_
          refine kb_box K.out 42 (.tmp 0) (poA ⟨x.p0, x.p1, x.p2, x.p3, x.p4, x.p5, x.p6, x.p7, x.p8, x.p9, x.p10, x.p11, x.p12, (u.r : Nat), (u.c : Nat), (u.b : Nat), (u.p : Nat), x.p17, x.p18, x.p19, x.p20⟩) rfl rfl (by rfl) ?_
          intro b1 w1 hb1 hk
          have K1 := Lib.hid (show Kb w [(b1, poA ⟨x.p0, x.p1, x.p2, x.p3, x.p4, x.p5, x.p6, x.p7, x.p8, x.p9, x.p10, x.p11, x.p12, (u.r : Nat), (u.c : Nat), (u.b : Nat), (u.p : Nat), x.p17, x.p18, x.p19, x.p20⟩, 42)] w1 from hk)
          clear hk hb1
          (try simp only [Act.put, gA, gS, gZ, sA, sZ, sS])
          refine kb_box K1.out 35 (.tmp 2) (vcA v) rfl rfl (by rfl) ?_
          intro b2 w2 hb2 hk
          have K2 := Lib.hid (show Kb w [(b1, poA ⟨x.p0, x.p1, x.p2, x.p3, x.p4, x.p5, x.p6, x.p7, x.p8, x.p9, x.p10, x.p11, x.p12, (u.r : Nat), (u.c : Nat), (u.b : Nat), (u.p : Nat), x.p17, x.p18, x.p19, x.p20⟩, 42), (b2, vcA v, 35)] w2 from hk)
          clear hk hb2
          (try simp only [Act.put, gA, gS, gZ, sA, sZ, sS])
          refine kb_box K2.out 38 (.tmp 3) (cfA c) rfl rfl (by rfl) ?_
          intro b3 w3 hb3 hk
          have K3 := Lib.hid (show Kb w [(b1, poA ⟨x.p0, x.p1, x.p2, x.p3, x.p4, x.p5, x.p6, x.p7, x.p8, x.p9, x.p10, x.p11, x.p12, (u.r : Nat), (u.c : Nat), (u.b : Nat), (u.p : Nat), x.p17, x.p18, x.p19, x.p20⟩, 42), (b2, vcA v, 35), (b3, cfA c, 38)] w3 from hk)
          clear hk hb3
          (try simp only [Act.put, gA, gS, gZ, sA, sZ, sS])
          refine kb_alloc K3.out 42 (nil21) rfl z50 (by rfl) ?_
          intro b4 w4 hb4 hk
          have K4 := Lib.hid (show Kb w [(b1, poA ⟨x.p0, x.p1, x.p2, x.p3, x.p4, x.p5, x.p6, x.p7, x.p8, x.p9, x.p10, x.p11, x.p12, (u.r : Nat), (u.c : Nat), (u.b : Nat), (u.p : Nat), x.p17, x.p18, x.p19, x.p20⟩, 42), (b2, vcA v, 35), (b3, cfA c, 38), (b4, nil21, 42)] w4 from hk)
          clear hk hb4
          (try simp only [Act.put, gA, gS, gZ, sA, sZ, sS])
          refine wv (.bool false) ?_
          (try simp only [Act.put, gA, gS, gZ, sA, sZ, sS])
          refine wv (.bool false) ?_
          (try simp only [Act.put, gA, gS, gZ, sA, sZ, sS])
          refine wpList_nil ?_
          go_upto_region 1 with fail
          refine wp_region_lit ?_
          refine wv (.agg (poA ⟨x.p0, x.p1, x.p2, x.p3, x.p4, x.p5, x.p6, x.p7, x.p8, x.p9, x.p10, x.p11, x.p12, (u.r : Nat), (u.c : Nat), (u.b : Nat), (u.p : Nat), x.p17, x.p18, x.p19, x.p20⟩)) ?_ (hrun := kb_all K4.out 0 rfl 42 _ rfl rfl Try.underlying42 rfl (size50))
          (try simp only [Act.put, gA, gS, gZ, sA, sZ, sS])
          refine kb_alloc K4.out 42 (nil21) rfl z50 (by rfl) ?_
          intro b5 w5 hb5 hk
          have K5 := Lib.hid (show Kb w [(b1, poA ⟨x.p0, x.p1, x.p2, x.p3, x.p4, x.p5, x.p6, x.p7, x.p8, x.p9, x.p10, x.p11, x.p12, (u.r : Nat), (u.c : Nat), (u.b : Nat), (u.p : Nat), x.p17, x.p18, x.p19, x.p20⟩, 42), (b2, vcA v, 35), (b3, cfA c, 38), (b4, nil21, 42), (b5, nil21, 42)] w5 from hk)
          clear hk hb5
          (try simp only [Act.put, gA, gS, gZ, sA, sZ, sS])
          refine kb_row K5.out 4 rfl 42 _ _ (poA ⟨x.p0, x.p1, x.p2, x.p3, x.p4, x.p5, x.p6, x.p7, x.p8, x.p9, x.p10, x.p11, x.p12, (u.r : Nat), (u.c : Nat), (u.b : Nat), (u.p : Nat), x.p17, x.p18, x.p19, x.p20⟩) rfl rfl rfl rfl (size50) (by rfl) (po_all _) ?_
          intro w6 hk
          have K6 := Lib.hid (show Kb w [(b1, poA ⟨x.p0, x.p1, x.p2, x.p3, x.p4, x.p5, x.p6, x.p7, x.p8, x.p9, x.p10, x.p11, x.p12, (u.r : Nat), (u.c : Nat), (u.b : Nat), (u.p : Nat), x.p17, x.p18, x.p19, x.p20⟩, 42), (b2, vcA v, 35), (b3, cfA c, 38), (b4, nil21, 42), (b5, poA ⟨x.p0, x.p1, x.p2, x.p3, x.p4, x.p5, x.p6, x.p7, x.p8, x.p9, x.p10, x.p11, x.p12, (u.r : Nat), (u.c : Nat), (u.b : Nat), (u.p : Nat), x.p17, x.p18, x.p19, x.p20⟩, 42)] w6 from hk)
          clear hk
          (try simp only [Act.put, gA, gS, gZ, sA, sZ, sS])
          refine wv (.bool false) ?_
          (try simp only [Act.put, gA, gS, gZ, sA, sZ, sS])
          refine wpList_nil ?_
          go_upto_region 2 with fail
          refine wp_region_lit ?_
          refine wv (.int .i64 3) ?_
          (try simp only [Act.put, gA, gS, gZ, sA, sZ, sS])
          refine wv (.pointer (some ⟨b1, 10, none⟩)) ?_
          (try simp only [Act.put, gA, gS, gZ, sA, sZ, sS])
          refine kb_set K6.out 0 rfl 3 _ _ 10 (.int .i64 3) rfl (by rfl) rfl rfl (kb_run_set K6.out (i := 0) rfl 3 10 (.int .i64 x.p10) (.int .i64 3) (by rfl) (fun W h1 h2 => by go_simp)) (poA ⟨x.p0, x.p1, x.p2, x.p3, x.p4, x.p5, x.p6, x.p7, x.p8, x.p9, 3, x.p11, x.p12, (u.r : Nat), (u.c : Nat), (u.b : Nat), (u.p : Nat), x.p17, x.p18, x.p19, x.p20⟩) (by kernel_rfl) ?_
          intro w7 hk
          have K7 := Lib.hid (show Kb w [(b1, poA ⟨x.p0, x.p1, x.p2, x.p3, x.p4, x.p5, x.p6, x.p7, x.p8, x.p9, 3, x.p11, x.p12, (u.r : Nat), (u.c : Nat), (u.b : Nat), (u.p : Nat), x.p17, x.p18, x.p19, x.p20⟩, 42), (b2, vcA v, 35), (b3, cfA c, 38), (b4, nil21, 42), (b5, poA ⟨x.p0, x.p1, x.p2, x.p3, x.p4, x.p5, x.p6, x.p7, x.p8, x.p9, x.p10, x.p11, x.p12, (u.r : Nat), (u.c : Nat), (u.b : Nat), (u.p : Nat), x.p17, x.p18, x.p19, x.p20⟩, 42)] w7 from hk)
          clear hk
          (try simp only [Act.put, gA, gS, gZ, sA, sZ, sS])
          refine wpList_nil ?_
          go_upto_region 3 with fail
          refine wp_region_lit ?_
          refine wv (.int .i64 3) ?_
          (try simp only [Act.put, gA, gS, gZ, sA, sZ, sS])
          refine wpList_nil ?_
          go_upto_region 4 with fail
          refine wp_region_lit ?_
          refine wv (.bool false) ?_
          (try simp only [Act.put, gA, gS, gZ, sA, sZ, sS])
          refine wv (.bool false) ?_
          (try simp only [Act.put, gA, gS, gZ, sA, sZ, sS])
          refine wpList_nil ?_
          go_upto_region 5 with fail
          refine wp_region_lit ?_
          refine wv (.bool false) ?_
          (try simp only [Act.put, gA, gS, gZ, sA, sZ, sS])
          refine wv (.bool false) ?_
          (try simp only [Act.put, gA, gS, gZ, sA, sZ, sS])
          refine wpList_nil ?_
          go_upto_region 7 with fail
          refine wp_region_lit ?_
          refine wv (.bool true) ?_
          (try simp only [Act.put, gA, gS, gZ, sA, sZ, sS])
          refine wv (.bool true) ?_
          (try simp only [Act.put, gA, gS, gZ, sA, sZ, sS])
          refine wpList_nil ?_
          go_upto_region 8 with fail
          refine wp_region_lit ?_
          refine wv (.pointer (some ⟨b5, 10, none⟩)) ?_
          (try simp only [Act.put, gA, gS, gZ, sA, sZ, sS])
          refine wv (.int .i64 x.p10) ?_ (hrun := by have q : w7.cell? ⟨b5, 10, none⟩ = some (.int .i64 x.p10) := K7.out.cell (i := 4) rfl (by rfl); go_simp)
          (try simp only [Act.put, gA, gS, gZ, sA, sZ, sS])
          refine wv (.bool false) ?_ (hrun := by have q := h33; go_simp)
          (try simp only [Act.put, gA, gS, gZ, sA, sZ, sS])
          refine wpList_nil ?_
          have hQq : poA Q = poA ⟨x.p0, x.p1, x.p2, x.p3, x.p4, x.p5, x.p6, x.p7, x.p8, x.p9, 3, x.p11, x.p12, (u.r : Nat), (u.c : Nat), (u.b : Nat), (u.p : Nat), x.p17, x.p18, x.p19, x.p20⟩ := by rw [HQ.out]; rfl
          have KQ := Lib.hid (show Kb w [(b1, poA Q, 42), (b2, vcA v, 35), (b3, cfA c, 38), (b4, nil21, 42), (b5, poA ⟨x.p0, x.p1, x.p2, x.p3, x.p4, x.p5, x.p6, x.p7, x.p8, x.p9, x.p10, x.p11, x.p12, (u.r : Nat), (u.c : Nat), (u.b : Nat), (u.p : Nat), x.p17, x.p18, x.p19, x.p20⟩, 42)] w7 from by rw [hQq]; exact K7.out)
          clear hQq
          go_upto_region 12 with fail
          refine wp_region_inv_dc (I := fun L ac w' => ac = AsA3 x Q u v c op b1 b2 b3 b4 b5 L ∧ Kb w [(b1, poA Q, 42), (b2, vcA v, 35), (b3, cfA c, 38), (b4, bif L 5 then poA Q else nil21, 42), (b5, poA ⟨x.p0, x.p1, x.p2, x.p3, x.p4, x.p5, x.p6, x.p7, x.p8, x.p9, x.p10, x.p11, x.p12, (u.r : Nat), (u.c : Nat), (u.b : Nat), (u.p : Nat), x.p17, x.p18, x.p19, x.p20⟩, 42)] w') (by kernel_rfl) (by kernel_rfl) ⟨by kernel_rfl, KQ.out.drew⟩ ?_ ?_
          · intro i hi Lx ac w' hI hL haft hdc
            obtain ⟨rfl, hw⟩ := hI
            match i, hi with
            | 0, _ =>
              have g4 : (AsA3 x Q u v c op b1 b2 b3 b4 b5 Lx).tmps[4]?.getD undef = .pointer (some ⟨b1, 0, none⟩) := by kernel_rfl
              have e4 : (AsA3 x Q u v c op b1 b2 b3 b4 b5 Lx).eval (.tmp 4) = .pointer (some ⟨b1, 0, none⟩) := by kernel_rfl
              exact i_val rfl (.agg (poA Q)) w' (by rfl) (kb_all hw 0 rfl 42 _ rfl e4 Try.underlying42 rfl (size50)) ⟨by kernel_rfl, hw⟩
            | 1, _ =>
              have g12 : (AsA3 x Q u v c op b1 b2 b3 b4 b5 Lx).tmps[12]?.getD undef = .bool false := by kernel_rfl
              have e12 : (AsA3 x Q u v c op b1 b2 b3 b4 b5 Lx).eval (.tmp 12) = .bool false := by kernel_rfl
              exact i_val rfl (.bool false) w' (by rfl) (by go_simp) ⟨by kernel_rfl, hw⟩
            | 2, _ =>
              have g11 : (AsA3 x Q u v c op b1 b2 b3 b4 b5 Lx).tmps[11]?.getD undef = .pointer (some ⟨b5, 0, none⟩) := by kernel_rfl
              have e11 : (AsA3 x Q u v c op b1 b2 b3 b4 b5 Lx).eval (.tmp 11) = .pointer (some ⟨b5, 0, none⟩) := by kernel_rfl
              exact i_val rfl (.agg (poA ⟨x.p0, x.p1, x.p2, x.p3, x.p4, x.p5, x.p6, x.p7, x.p8, x.p9, x.p10, x.p11, x.p12, (u.r : Nat), (u.c : Nat), (u.b : Nat), (u.p : Nat), x.p17, x.p18, x.p19, x.p20⟩)) w' (by rfl) (kb_all hw 4 rfl 42 _ rfl e11 Try.underlying42 rfl (size50)) ⟨by kernel_rfl, hw⟩
            | 3, _ =>
              have g4 : (AsA3 x Q u v c op b1 b2 b3 b4 b5 Lx).tmps[4]?.getD undef = .pointer (some ⟨b1, 0, none⟩) := by kernel_rfl
              have e4 : (AsA3 x Q u v c op b1 b2 b3 b4 b5 Lx).eval (.tmp 4) = .pointer (some ⟨b1, 0, none⟩) := by kernel_rfl
              exact i_val rfl (.agg (poA Q)) w' (by rfl) (kb_all hw 0 rfl 42 _ rfl e4 Try.underlying42 rfl (size50)) ⟨by kernel_rfl, hw⟩
            | 4, _ =>
              have h2 := haft 2 (by decide)
              have e40 : (AsA3 x Q u v c op b1 b2 b3 b4 b5 Lx).eval (.tmp 40) = .agg (poA ⟨x.p0, x.p1, x.p2, x.p3, x.p4, x.p5, x.p6, x.p7, x.p8, x.p9, x.p10, x.p11, x.p12, (u.r : Nat), (u.c : Nat), (u.b : Nat), (u.p : Nat), x.p17, x.p18, x.p19, x.p20⟩) := by show (bif Lx 2 then _ else _) = _; rw [h2]; rfl
              have g40 : (AsA3 x Q u v c op b1 b2 b3 b4 b5 Lx).tmps[40]?.getD undef = .agg (poA ⟨x.p0, x.p1, x.p2, x.p3, x.p4, x.p5, x.p6, x.p7, x.p8, x.p9, x.p10, x.p11, x.p12, (u.r : Nat), (u.c : Nat), (u.b : Nat), (u.p : Nat), x.p17, x.p18, x.p19, x.p20⟩) := by show (bif Lx 2 then _ else _) = _; rw [h2]; rfl
              have h3 := haft 3 (by decide)
              have e41 : (AsA3 x Q u v c op b1 b2 b3 b4 b5 Lx).eval (.tmp 41) = .agg (poA Q) := by show (bif Lx 3 then _ else _) = _; rw [h3]; rfl
              have g41 : (AsA3 x Q u v c op b1 b2 b3 b4 b5 Lx).tmps[41]?.getD undef = .agg (poA Q) := by show (bif Lx 3 then _ else _) = _; rw [h3]; rfl
              exact i_call rfl (.bool op) 16 #[.agg (poA ⟨x.p0, x.p1, x.p2, x.p3, x.p4, x.p5, x.p6, x.p7, x.p8, x.p9, x.p10, x.p11, x.p12, (u.r : Nat), (u.c : Nat), (u.b : Nat), (u.p : Nat), x.p17, x.p18, x.p19, x.p20⟩), .agg (poA Q)] (fun w2 => Below w'.heap.size w' w2) (by rfl) (by go_simp) (opened_is ⟨x.p0, x.p1, x.p2, x.p3, x.p4, x.p5, x.p6, x.p7, x.p8, x.p9, x.p10, x.p11, x.p12, (u.r : Nat), (u.c : Nat), (u.b : Nat), (u.p : Nat), x.p17, x.p18, x.p19, x.p20⟩ Q op HO.out w') (fun w2 hb => ⟨by kernel_rfl, hw.next hb⟩)
            | 5, _ =>
              have g8 : (AsA3 x Q u v c op b1 b2 b3 b4 b5 Lx).tmps[8]?.getD undef = .pointer (some ⟨b4, 0, none⟩) := by kernel_rfl
              have e8 : (AsA3 x Q u v c op b1 b2 b3 b4 b5 Lx).eval (.tmp 8) = .pointer (some ⟨b4, 0, none⟩) := by kernel_rfl
              have h0 := haft 0 (by decide)
              have e38 : (AsA3 x Q u v c op b1 b2 b3 b4 b5 Lx).eval (.tmp 38) = .agg (poA Q) := by show (bif Lx 0 then _ else _) = _; rw [h0]; rfl
              have g38 : (AsA3 x Q u v c op b1 b2 b3 b4 b5 Lx).tmps[38]?.getD undef = .agg (poA Q) := by show (bif Lx 0 then _ else _) = _; rw [h0]; rfl
              exact i_wp rfl (by rfl) (wp_store_row 42 _ _ rfl b4 (poA Q) e8 e38 42 (bif Lx 5 then poA Q else nil21) (Kb.at (i := 3) hw rfl) (size50) (by rw [hL]; rfl) (po_all _) ⟨by kernel_rfl, cast_blk (Kb.row (i := 3) hw rfl (poA Q)) (by rfl)⟩)
            | 6, _ =>
              have h1 := haft 1 (by decide)
              have e39 : (AsA3 x Q u v c op b1 b2 b3 b4 b5 Lx).eval (.tmp 39) = .bool false := by show (bif Lx 1 then _ else _) = _; rw [h1]; rfl
              have g39 : (AsA3 x Q u v c op b1 b2 b3 b4 b5 Lx).tmps[39]?.getD undef = .bool false := by show (bif Lx 1 then _ else _) = _; rw [h1]; rfl
              exact i_val rfl (.bool false) w' (by rfl) (by go_simp) ⟨by kernel_rfl, hw⟩
            | 7, _ =>
              have h4 := haft 4 (by decide)
              have e42 : (AsA3 x Q u v c op b1 b2 b3 b4 b5 Lx).eval (.tmp 42) = .bool op := by show (bif Lx 4 then _ else _) = _; rw [h4]; rfl
              have g42 : (AsA3 x Q u v c op b1 b2 b3 b4 b5 Lx).tmps[42]?.getD undef = .bool op := by show (bif Lx 4 then _ else _) = _; rw [h4]; rfl
              exact i_val rfl (.bool op) w' (by rfl) (by go_simp) ⟨by kernel_rfl, hw⟩
            | k + 8, h =>
              exfalso
              have h2 : k + 8 < 8 := h
              omega
          intro Lx ac w8 hI hall
          obtain ⟨rfl, hw⟩ := hI
          have hfr : AsA3 x Q u v c op b1 b2 b3 b4 b5 Lx = { tmps := #[.agg (poA ⟨x.p0, x.p1, x.p2, x.p3, x.p4, x.p5, x.p6, x.p7, x.p8, x.p9, x.p10, x.p11, x.p12, (u.r : Nat), (u.c : Nat), (u.b : Nat), (u.p : Nat), x.p17, x.p18, x.p19, x.p20⟩), .int .i64 3, .agg (vcA v), .agg (cfA c), .pointer (some ⟨b1, 0, none⟩), undef, .pointer (some ⟨b2, 0, none⟩), .pointer (some ⟨b3, 0, none⟩), .pointer (some ⟨b4, 0, none⟩), .bool false, .bool op, .pointer (some ⟨b5, 0, none⟩), .bool false, .agg (poA ⟨x.p0, x.p1, x.p2, x.p3, x.p4, x.p5, x.p6, x.p7, x.p8, x.p9, x.p10, x.p11, x.p12, (u.r : Nat), (u.c : Nat), (u.b : Nat), (u.p : Nat), x.p17, x.p18, x.p19, x.p20⟩), .int .i64 3, .pointer (some ⟨b1, 10, none⟩), .int .i64 3, .bool false, .bool false, .bool false, undef, undef, .bool true, .bool true, .pointer (some ⟨b5, 10, none⟩), .int .i64 x.p10, .bool false, undef, undef, undef, undef, undef, undef, undef, undef, undef, undef, undef, .agg (poA Q), .bool false, .agg (poA ⟨x.p0, x.p1, x.p2, x.p3, x.p4, x.p5, x.p6, x.p7, x.p8, x.p9, x.p10, x.p11, x.p12, (u.r : Nat), (u.c : Nat), (u.b : Nat), (u.p : Nat), x.p17, x.p18, x.p19, x.p20⟩), .agg (poA Q), .bool op], defers := [] } := by unfold AsA3; simp only [hall 0 (by decide), hall 1 (by decide), hall 2 (by decide), hall 3 (by decide), hall 4 (by decide), hall 6 (by decide), hall 7 (by decide), cond_true]
          rw [hfr]
          clear hfr
          have hL5 := hall 5 (by decide)
          simp only [hL5, cond_true] at hw
          have K8 := Lib.hid (show Kb w [(b1, poA Q, 42), (b2, vcA v, 35), (b3, cfA c, 38), (b4, poA Q, 42), (b5, poA ⟨x.p0, x.p1, x.p2, x.p3, x.p4, x.p5, x.p6, x.p7, x.p8, x.p9, x.p10, x.p11, x.p12, (u.r : Nat), (u.c : Nat), (u.b : Nat), (u.p : Nat), x.p17, x.p18, x.p19, x.p20⟩, 42)] w8 from hw)
          clear hw hall hL5
          go_wp2_with fail
          refine bodyPost_ret (v := .tuple #[.agg (poA Q), .bool false, .bool op]) (results_row_tmp2 Try.results9 _ _ b4 42 (poA Q) (.bool false) (.bool op) _ rfl rfl rfl (K8.out.at (i := 3) rfl) Try.underlying42 rfl (po_info _)) rfl ?_
          exact ⟨rfl, K8.out.below⟩
        case neg =>
          have hq : Q = restP (roleP x u 3) 2 := by rw [hQ]; simp [assumeP, h1, h2, h3, h33]
          have ha : an = false := by rw [hA]; simp [assumeN, h1, h2, h3, h33]
          clear hQ hA
          subst ha
          subst h3
          have HQ := Lib.hid hq
          clear hq
          have K := Lib.hid (Kb.nil w)
          go_enter Try.func9, Try.ntmps9
          go_upto_region 0 with fail
          refine wp_region_lit ?_
          refine kb_box K.out 42 (.tmp 0) (poA ⟨x.p0, x.p1, x.p2, x.p3, x.p4, x.p5, x.p6, x.p7, x.p8, x.p9, x.p10, x.p11, x.p12, (u.r : Nat), (u.c : Nat), (u.b : Nat), (u.p : Nat), x.p17, x.p18, x.p19, x.p20⟩) rfl rfl (by rfl) ?_
          intro b1 w1 hb1 hk
          have K1 := Lib.hid (show Kb w [(b1, poA ⟨x.p0, x.p1, x.p2, x.p3, x.p4, x.p5, x.p6, x.p7, x.p8, x.p9, x.p10, x.p11, x.p12, (u.r : Nat), (u.c : Nat), (u.b : Nat), (u.p : Nat), x.p17, x.p18, x.p19, x.p20⟩, 42)] w1 from hk)
          clear hk hb1
          (try simp only [Act.put, gA, gS, gZ, sA, sZ, sS])
          refine kb_box K1.out 35 (.tmp 2) (vcA v) rfl rfl (by rfl) ?_
          intro b2 w2 hb2 hk
          have K2 := Lib.hid (show Kb w [(b1, poA ⟨x.p0, x.p1, x.p2, x.p3, x.p4, x.p5, x.p6, x.p7, x.p8, x.p9, x.p10, x.p11, x.p12, (u.r : Nat), (u.c : Nat), (u.b : Nat), (u.p : Nat), x.p17, x.p18, x.p19, x.p20⟩, 42), (b2, vcA v, 35)] w2 from hk)
          clear hk hb2
          (try simp only [Act.put, gA, gS, gZ, sA, sZ, sS])
          refine kb_box K2.out 38 (.tmp 3) (cfA c) rfl rfl (by rfl) ?_
          intro b3 w3 hb3 hk
          have K3 := Lib.hid (show Kb w [(b1, poA ⟨x.p0, x.p1, x.p2, x.p3, x.p4, x.p5, x.p6, x.p7, x.p8, x.p9, x.p10, x.p11, x.p12, (u.r : Nat), (u.c : Nat), (u.b : Nat), (u.p : Nat), x.p17, x.p18, x.p19, x.p20⟩, 42), (b2, vcA v, 35), (b3, cfA c, 38)] w3 from hk)
          clear hk hb3
          (try simp only [Act.put, gA, gS, gZ, sA, sZ, sS])
          refine kb_alloc K3.out 42 (nil21) rfl z50 (by rfl) ?_
          intro b4 w4 hb4 hk
          have K4 := Lib.hid (show Kb w [(b1, poA ⟨x.p0, x.p1, x.p2, x.p3, x.p4, x.p5, x.p6, x.p7, x.p8, x.p9, x.p10, x.p11, x.p12, (u.r : Nat), (u.c : Nat), (u.b : Nat), (u.p : Nat), x.p17, x.p18, x.p19, x.p20⟩, 42), (b2, vcA v, 35), (b3, cfA c, 38), (b4, nil21, 42)] w4 from hk)
          clear hk hb4
          (try simp only [Act.put, gA, gS, gZ, sA, sZ, sS])
          refine wv (.bool false) ?_
          (try simp only [Act.put, gA, gS, gZ, sA, sZ, sS])
          refine wv (.bool false) ?_
          (try simp only [Act.put, gA, gS, gZ, sA, sZ, sS])
          refine wpList_nil ?_
          go_upto_region 1 with fail
          refine wp_region_lit ?_
          refine wv (.agg (poA ⟨x.p0, x.p1, x.p2, x.p3, x.p4, x.p5, x.p6, x.p7, x.p8, x.p9, x.p10, x.p11, x.p12, (u.r : Nat), (u.c : Nat), (u.b : Nat), (u.p : Nat), x.p17, x.p18, x.p19, x.p20⟩)) ?_ (hrun := kb_all K4.out 0 rfl 42 _ rfl rfl Try.underlying42 rfl (size50))
          (try simp only [Act.put, gA, gS, gZ, sA, sZ, sS])
          refine kb_alloc K4.out 42 (nil21) rfl z50 (by rfl) ?_
          intro b5 w5 hb5 hk
          have K5 := Lib.hid (show Kb w [(b1, poA ⟨x.p0, x.p1, x.p2, x.p3, x.p4, x.p5, x.p6, x.p7, x.p8, x.p9, x.p10, x.p11, x.p12, (u.r : Nat), (u.c : Nat), (u.b : Nat), (u.p : Nat), x.p17, x.p18, x.p19, x.p20⟩, 42), (b2, vcA v, 35), (b3, cfA c, 38), (b4, nil21, 42), (b5, nil21, 42)] w5 from hk)
          clear hk hb5
          (try simp only [Act.put, gA, gS, gZ, sA, sZ, sS])
          refine kb_row K5.out 4 rfl 42 _ _ (poA ⟨x.p0, x.p1, x.p2, x.p3, x.p4, x.p5, x.p6, x.p7, x.p8, x.p9, x.p10, x.p11, x.p12, (u.r : Nat), (u.c : Nat), (u.b : Nat), (u.p : Nat), x.p17, x.p18, x.p19, x.p20⟩) rfl rfl rfl rfl (size50) (by rfl) (po_all _) ?_
          intro w6 hk
          have K6 := Lib.hid (show Kb w [(b1, poA ⟨x.p0, x.p1, x.p2, x.p3, x.p4, x.p5, x.p6, x.p7, x.p8, x.p9, x.p10, x.p11, x.p12, (u.r : Nat), (u.c : Nat), (u.b : Nat), (u.p : Nat), x.p17, x.p18, x.p19, x.p20⟩, 42), (b2, vcA v, 35), (b3, cfA c, 38), (b4, nil21, 42), (b5, poA ⟨x.p0, x.p1, x.p2, x.p3, x.p4, x.p5, x.p6, x.p7, x.p8, x.p9, x.p10, x.p11, x.p12, (u.r : Nat), (u.c : Nat), (u.b : Nat), (u.p : Nat), x.p17, x.p18, x.p19, x.p20⟩, 42)] w6 from hk)
          clear hk
          (try simp only [Act.put, gA, gS, gZ, sA, sZ, sS])
          refine wv (.bool false) ?_
          (try simp only [Act.put, gA, gS, gZ, sA, sZ, sS])
          refine wpList_nil ?_
          go_upto_region 2 with fail
          refine wp_region_lit ?_
          refine wv (.int .i64 3) ?_
          (try simp only [Act.put, gA, gS, gZ, sA, sZ, sS])
          refine wv (.pointer (some ⟨b1, 10, none⟩)) ?_
          (try simp only [Act.put, gA, gS, gZ, sA, sZ, sS])
          refine kb_set K6.out 0 rfl 3 _ _ 10 (.int .i64 3) rfl (by rfl) rfl rfl (kb_run_set K6.out (i := 0) rfl 3 10 (.int .i64 x.p10) (.int .i64 3) (by rfl) (fun W h1 h2 => by go_simp)) (poA ⟨x.p0, x.p1, x.p2, x.p3, x.p4, x.p5, x.p6, x.p7, x.p8, x.p9, 3, x.p11, x.p12, (u.r : Nat), (u.c : Nat), (u.b : Nat), (u.p : Nat), x.p17, x.p18, x.p19, x.p20⟩) (by kernel_rfl) ?_
          intro w7 hk
          have K7 := Lib.hid (show Kb w [(b1, poA ⟨x.p0, x.p1, x.p2, x.p3, x.p4, x.p5, x.p6, x.p7, x.p8, x.p9, 3, x.p11, x.p12, (u.r : Nat), (u.c : Nat), (u.b : Nat), (u.p : Nat), x.p17, x.p18, x.p19, x.p20⟩, 42), (b2, vcA v, 35), (b3, cfA c, 38), (b4, nil21, 42), (b5, poA ⟨x.p0, x.p1, x.p2, x.p3, x.p4, x.p5, x.p6, x.p7, x.p8, x.p9, x.p10, x.p11, x.p12, (u.r : Nat), (u.c : Nat), (u.b : Nat), (u.p : Nat), x.p17, x.p18, x.p19, x.p20⟩, 42)] w7 from hk)
          clear hk
          (try simp only [Act.put, gA, gS, gZ, sA, sZ, sS])
          refine wpList_nil ?_
          go_upto_region 3 with fail
          refine wp_region_lit ?_
          refine wv (.int .i64 3) ?_
          (try simp only [Act.put, gA, gS, gZ, sA, sZ, sS])
          refine wpList_nil ?_
          go_upto_region 4 with fail
          refine wp_region_lit ?_
          refine wv (.bool false) ?_
          (try simp only [Act.put, gA, gS, gZ, sA, sZ, sS])
          refine wv (.bool false) ?_
          (try simp only [Act.put, gA, gS, gZ, sA, sZ, sS])
          refine wpList_nil ?_
          go_upto_region 5 with fail
          refine wp_region_lit ?_
          refine wv (.bool false) ?_
          (try simp only [Act.put, gA, gS, gZ, sA, sZ, sS])
          refine wv (.bool false) ?_
          (try simp only [Act.put, gA, gS, gZ, sA, sZ, sS])
          refine wpList_nil ?_
          go_upto_region 7 with fail
          refine wp_region_lit ?_
          refine wv (.bool true) ?_
          (try simp only [Act.put, gA, gS, gZ, sA, sZ, sS])
          refine wv (.bool true) ?_
          (try simp only [Act.put, gA, gS, gZ, sA, sZ, sS])
          refine wpList_nil ?_
          go_upto_region 8 with fail
          refine wp_region_lit ?_
          refine wv (.pointer (some ⟨b5, 10, none⟩)) ?_
          (try simp only [Act.put, gA, gS, gZ, sA, sZ, sS])
          refine wv (.int .i64 x.p10) ?_ (hrun := by have q : w7.cell? ⟨b5, 10, none⟩ = some (.int .i64 x.p10) := K7.out.cell (i := 4) rfl (by rfl); go_simp)
          (try simp only [Act.put, gA, gS, gZ, sA, sZ, sS])
          refine wv (.bool true) ?_ (hrun := by have q := h33; go_simp)
          (try simp only [Act.put, gA, gS, gZ, sA, sZ, sS])
          refine wpList_nil ?_
          go_upto_region 9 with fail
          refine wp_region_lit ?_
          refine wv (.agg (poA ⟨x.p0, x.p1, x.p2, x.p3, x.p4, x.p5, x.p6, x.p7, x.p8, x.p9, 3, x.p11, x.p12, (u.r : Nat), (u.c : Nat), (u.b : Nat), (u.p : Nat), x.p17, x.p18, x.p19, x.p20⟩)) ?_ (hrun := kb_all K7.out 0 rfl 42 _ rfl rfl Try.underlying42 rfl (size50))
          (try simp only [Act.put, gA, gS, gZ, sA, sZ, sS])
          refine kb_call K7.out 14 #[.agg (poA ⟨x.p0, x.p1, x.p2, x.p3, x.p4, x.p5, x.p6, x.p7, x.p8, x.p9, 3, x.p11, x.p12, (u.r : Nat), (u.c : Nat), (u.b : Nat), (u.p : Nat), x.p17, x.p18, x.p19, x.p20⟩), .int .i64 2] (.agg (poA Q)) (by rfl) (by go_simp) (rest_is ⟨x.p0, x.p1, x.p2, x.p3, x.p4, x.p5, x.p6, x.p7, x.p8, x.p9, 3, x.p11, x.p12, (u.r : Nat), (u.c : Nat), (u.b : Nat), (u.p : Nat), x.p17, x.p18, x.p19, x.p20⟩ 2 Q HQ.out.symm w7) ?_
          intro w8 hk
          have K8 := Lib.hid (show Kb w [(b1, poA ⟨x.p0, x.p1, x.p2, x.p3, x.p4, x.p5, x.p6, x.p7, x.p8, x.p9, 3, x.p11, x.p12, (u.r : Nat), (u.c : Nat), (u.b : Nat), (u.p : Nat), x.p17, x.p18, x.p19, x.p20⟩, 42), (b2, vcA v, 35), (b3, cfA c, 38), (b4, nil21, 42), (b5, poA ⟨x.p0, x.p1, x.p2, x.p3, x.p4, x.p5, x.p6, x.p7, x.p8, x.p9, x.p10, x.p11, x.p12, (u.r : Nat), (u.c : Nat), (u.b : Nat), (u.p : Nat), x.p17, x.p18, x.p19, x.p20⟩, 42)] w8 from hk)
          clear hk
          (try simp only [Act.put, gA, gS, gZ, sA, sZ, sS])
          refine kb_row K8.out 0 rfl 42 _ _ (poA Q) rfl rfl rfl rfl (size50) (by rfl) (po_all _) ?_
          intro w9 hk
          have K9 := Lib.hid (show Kb w [(b1, poA Q, 42), (b2, vcA v, 35), (b3, cfA c, 38), (b4, nil21, 42), (b5, poA ⟨x.p0, x.p1, x.p2, x.p3, x.p4, x.p5, x.p6, x.p7, x.p8, x.p9, x.p10, x.p11, x.p12, (u.r : Nat), (u.c : Nat), (u.b : Nat), (u.p : Nat), x.p17, x.p18, x.p19, x.p20⟩, 42)] w9 from hk)
          clear hk
          (try simp only [Act.put, gA, gS, gZ, sA, sZ, sS])
          refine wpList_nil ?_
          go_upto_region 12 with fail
          refine wp_region_inv_dc (I := fun L ac w' => ac = AsA4 x Q u v c op b1 b2 b3 b4 b5 L ∧ Kb w [(b1, poA Q, 42), (b2, vcA v, 35), (b3, cfA c, 38), (b4, bif L 5 then poA Q else nil21, 42), (b5, poA ⟨x.p0, x.p1, x.p2, x.p3, x.p4, x.p5, x.p6, x.p7, x.p8, x.p9, x.p10, x.p11, x.p12, (u.r : Nat), (u.c : Nat), (u.b : Nat), (u.p : Nat), x.p17, x.p18, x.p19, x.p20⟩, 42)] w') (by kernel_rfl) (by kernel_rfl) ⟨by kernel_rfl, K9.out.drew⟩ ?_ ?_
          · intro i hi Lx ac w' hI hL haft hdc
            obtain ⟨rfl, hw⟩ := hI
            match i, hi with
            | 0, _ =>
              have g4 : (AsA4 x Q u v c op b1 b2 b3 b4 b5 Lx).tmps[4]?.getD undef = .pointer (some ⟨b1, 0, none⟩) := by kernel_rfl
              have e4 : (AsA4 x Q u v c op b1 b2 b3 b4 b5 Lx).eval (.tmp 4) = .pointer (some ⟨b1, 0, none⟩) := by kernel_rfl
              exact i_val rfl (.agg (poA Q)) w' (by rfl) (kb_all hw 0 rfl 42 _ rfl e4 Try.underlying42 rfl (size50)) ⟨by kernel_rfl, hw⟩
            | 1, _ =>
              have g12 : (AsA4 x Q u v c op b1 b2 b3 b4 b5 Lx).tmps[12]?.getD undef = .bool false := by kernel_rfl
              have e12 : (AsA4 x Q u v c op b1 b2 b3 b4 b5 Lx).eval (.tmp 12) = .bool false := by kernel_rfl
              exact i_val rfl (.bool false) w' (by rfl) (by go_simp) ⟨by kernel_rfl, hw⟩
            | 2, _ =>
              have g11 : (AsA4 x Q u v c op b1 b2 b3 b4 b5 Lx).tmps[11]?.getD undef = .pointer (some ⟨b5, 0, none⟩) := by kernel_rfl
              have e11 : (AsA4 x Q u v c op b1 b2 b3 b4 b5 Lx).eval (.tmp 11) = .pointer (some ⟨b5, 0, none⟩) := by kernel_rfl
              exact i_val rfl (.agg (poA ⟨x.p0, x.p1, x.p2, x.p3, x.p4, x.p5, x.p6, x.p7, x.p8, x.p9, x.p10, x.p11, x.p12, (u.r : Nat), (u.c : Nat), (u.b : Nat), (u.p : Nat), x.p17, x.p18, x.p19, x.p20⟩)) w' (by rfl) (kb_all hw 4 rfl 42 _ rfl e11 Try.underlying42 rfl (size50)) ⟨by kernel_rfl, hw⟩
            | 3, _ =>
              have g4 : (AsA4 x Q u v c op b1 b2 b3 b4 b5 Lx).tmps[4]?.getD undef = .pointer (some ⟨b1, 0, none⟩) := by kernel_rfl
              have e4 : (AsA4 x Q u v c op b1 b2 b3 b4 b5 Lx).eval (.tmp 4) = .pointer (some ⟨b1, 0, none⟩) := by kernel_rfl
              exact i_val rfl (.agg (poA Q)) w' (by rfl) (kb_all hw 0 rfl 42 _ rfl e4 Try.underlying42 rfl (size50)) ⟨by kernel_rfl, hw⟩
            | 4, _ =>
              have h2 := haft 2 (by decide)
              have e40 : (AsA4 x Q u v c op b1 b2 b3 b4 b5 Lx).eval (.tmp 40) = .agg (poA ⟨x.p0, x.p1, x.p2, x.p3, x.p4, x.p5, x.p6, x.p7, x.p8, x.p9, x.p10, x.p11, x.p12, (u.r : Nat), (u.c : Nat), (u.b : Nat), (u.p : Nat), x.p17, x.p18, x.p19, x.p20⟩) := by show (bif Lx 2 then _ else _) = _; rw [h2]; rfl
              have g40 : (AsA4 x Q u v c op b1 b2 b3 b4 b5 Lx).tmps[40]?.getD undef = .agg (poA ⟨x.p0, x.p1, x.p2, x.p3, x.p4, x.p5, x.p6, x.p7, x.p8, x.p9, x.p10, x.p11, x.p12, (u.r : Nat), (u.c : Nat), (u.b : Nat), (u.p : Nat), x.p17, x.p18, x.p19, x.p20⟩) := by show (bif Lx 2 then _ else _) = _; rw [h2]; rfl
              have h3 := haft 3 (by decide)
              have e41 : (AsA4 x Q u v c op b1 b2 b3 b4 b5 Lx).eval (.tmp 41) = .agg (poA Q) := by show (bif Lx 3 then _ else _) = _; rw [h3]; rfl
              have g41 : (AsA4 x Q u v c op b1 b2 b3 b4 b5 Lx).tmps[41]?.getD undef = .agg (poA Q) := by show (bif Lx 3 then _ else _) = _; rw [h3]; rfl
              exact i_call rfl (.bool op) 16 #[.agg (poA ⟨x.p0, x.p1, x.p2, x.p3, x.p4, x.p5, x.p6, x.p7, x.p8, x.p9, x.p10, x.p11, x.p12, (u.r : Nat), (u.c : Nat), (u.b : Nat), (u.p : Nat), x.p17, x.p18, x.p19, x.p20⟩), .agg (poA Q)] (fun w2 => Below w'.heap.size w' w2) (by rfl) (by go_simp) (opened_is ⟨x.p0, x.p1, x.p2, x.p3, x.p4, x.p5, x.p6, x.p7, x.p8, x.p9, x.p10, x.p11, x.p12, (u.r : Nat), (u.c : Nat), (u.b : Nat), (u.p : Nat), x.p17, x.p18, x.p19, x.p20⟩ Q op HO.out w') (fun w2 hb => ⟨by kernel_rfl, hw.next hb⟩)
            | 5, _ =>
              have g8 : (AsA4 x Q u v c op b1 b2 b3 b4 b5 Lx).tmps[8]?.getD undef = .pointer (some ⟨b4, 0, none⟩) := by kernel_rfl
              have e8 : (AsA4 x Q u v c op b1 b2 b3 b4 b5 Lx).eval (.tmp 8) = .pointer (some ⟨b4, 0, none⟩) := by kernel_rfl
              have h0 := haft 0 (by decide)
              have e38 : (AsA4 x Q u v c op b1 b2 b3 b4 b5 Lx).eval (.tmp 38) = .agg (poA Q) := by show (bif Lx 0 then _ else _) = _; rw [h0]; rfl
              have g38 : (AsA4 x Q u v c op b1 b2 b3 b4 b5 Lx).tmps[38]?.getD undef = .agg (poA Q) := by show (bif Lx 0 then _ else _) = _; rw [h0]; rfl
              exact i_wp rfl (by rfl) (wp_store_row 42 _ _ rfl b4 (poA Q) e8 e38 42 (bif Lx 5 then poA Q else nil21) (Kb.at (i := 3) hw rfl) (size50) (by rw [hL]; rfl) (po_all _) ⟨by kernel_rfl, cast_blk (Kb.row (i := 3) hw rfl (poA Q)) (by rfl)⟩)
            | 6, _ =>
              have h1 := haft 1 (by decide)
              have e39 : (AsA4 x Q u v c op b1 b2 b3 b4 b5 Lx).eval (.tmp 39) = .bool false := by show (bif Lx 1 then _ else _) = _; rw [h1]; rfl
              have g39 : (AsA4 x Q u v c op b1 b2 b3 b4 b5 Lx).tmps[39]?.getD undef = .bool false := by show (bif Lx 1 then _ else _) = _; rw [h1]; rfl
              exact i_val rfl (.bool false) w' (by rfl) (by go_simp) ⟨by kernel_rfl, hw⟩
            | 7, _ =>
              have h4 := haft 4 (by decide)
              have e42 : (AsA4 x Q u v c op b1 b2 b3 b4 b5 Lx).eval (.tmp 42) = .bool op := by show (bif Lx 4 then _ else _) = _; rw [h4]; rfl
              have g42 : (AsA4 x Q u v c op b1 b2 b3 b4 b5 Lx).tmps[42]?.getD undef = .bool op := by show (bif Lx 4 then _ else _) = _; rw [h4]; rfl
              exact i_val rfl (.bool op) w' (by rfl) (by go_simp) ⟨by kernel_rfl, hw⟩
            | k + 8, h =>
              exfalso
              have h2 : k + 8 < 8 := h
              omega
          intro Lx ac w10 hI hall
          obtain ⟨rfl, hw⟩ := hI
          have hfr : AsA4 x Q u v c op b1 b2 b3 b4 b5 Lx = { tmps := #[.agg (poA ⟨x.p0, x.p1, x.p2, x.p3, x.p4, x.p5, x.p6, x.p7, x.p8, x.p9, x.p10, x.p11, x.p12, (u.r : Nat), (u.c : Nat), (u.b : Nat), (u.p : Nat), x.p17, x.p18, x.p19, x.p20⟩), .int .i64 3, .agg (vcA v), .agg (cfA c), .pointer (some ⟨b1, 0, none⟩), undef, .pointer (some ⟨b2, 0, none⟩), .pointer (some ⟨b3, 0, none⟩), .pointer (some ⟨b4, 0, none⟩), .bool false, .bool op, .pointer (some ⟨b5, 0, none⟩), .bool false, .agg (poA ⟨x.p0, x.p1, x.p2, x.p3, x.p4, x.p5, x.p6, x.p7, x.p8, x.p9, x.p10, x.p11, x.p12, (u.r : Nat), (u.c : Nat), (u.b : Nat), (u.p : Nat), x.p17, x.p18, x.p19, x.p20⟩), .int .i64 3, .pointer (some ⟨b1, 10, none⟩), .int .i64 3, .bool false, .bool false, .bool false, undef, undef, .bool true, .bool true, .pointer (some ⟨b5, 10, none⟩), .int .i64 x.p10, .bool true, .agg (poA ⟨x.p0, x.p1, x.p2, x.p3, x.p4, x.p5, x.p6, x.p7, x.p8, x.p9, 3, x.p11, x.p12, (u.r : Nat), (u.c : Nat), (u.b : Nat), (u.p : Nat), x.p17, x.p18, x.p19, x.p20⟩), .agg (poA Q), undef, undef, undef, undef, undef, undef, undef, undef, undef, .agg (poA Q), .bool false, .agg (poA ⟨x.p0, x.p1, x.p2, x.p3, x.p4, x.p5, x.p6, x.p7, x.p8, x.p9, x.p10, x.p11, x.p12, (u.r : Nat), (u.c : Nat), (u.b : Nat), (u.p : Nat), x.p17, x.p18, x.p19, x.p20⟩), .agg (poA Q), .bool op], defers := [] } := by unfold AsA4; simp only [hall 0 (by decide), hall 1 (by decide), hall 2 (by decide), hall 3 (by decide), hall 4 (by decide), hall 6 (by decide), hall 7 (by decide), cond_true]
          rw [hfr]
          clear hfr
          have hL5 := hall 5 (by decide)
          simp only [hL5, cond_true] at hw
          have K10 := Lib.hid (show Kb w [(b1, poA Q, 42), (b2, vcA v, 35), (b3, cfA c, 38), (b4, poA Q, 42), (b5, poA ⟨x.p0, x.p1, x.p2, x.p3, x.p4, x.p5, x.p6, x.p7, x.p8, x.p9, x.p10, x.p11, x.p12, (u.r : Nat), (u.c : Nat), (u.b : Nat), (u.p : Nat), x.p17, x.p18, x.p19, x.p20⟩, 42)] w10 from hw)
          clear hw hall hL5
          go_wp2_with fail
          refine bodyPost_ret (v := .tuple #[.agg (poA Q), .bool false, .bool op]) (results_row_tmp2 Try.results9 _ _ b4 42 (poA Q) (.bool false) (.bool op) _ rfl rfl rfl (K10.out.at (i := 3) rfl) Try.underlying42 rfl (po_info _)) rfl ?_
          exact ⟨rfl, K10.out.below⟩
      case neg =>
        by_cases h4 : r = 4
        case pos =>
          have hq : Q = desP x u v c.p3 := by rw [hQ]; simp [assumeP, h1, h2, h3, h4]
          have ha : an = desB x u v := by rw [hA]; simp [assumeN, h1, h2, h3, h4]
          clear hQ hA
          have HAN := Lib.hid ha
          clear ha
          subst h4
          have HQ := Lib.hid hq
          clear hq
          have K := Lib.hid (Kb.nil w)
          go_enter Try.func9, Try.ntmps9
          go_upto_region 0 with fail
          refine wp_region_lit ?_
          refine kb_box K.out 42 (.tmp 0) (poA ⟨x.p0, x.p1, x.p2, x.p3, x.p4, x.p5, x.p6, x.p7, x.p8, x.p9, x.p10, x.p11, x.p12, (u.r : Nat), (u.c : Nat), (u.b : Nat), (u.p : Nat), x.p17, x.p18, x.p19, x.p20⟩) rfl rfl (by rfl) ?_
          intro b1 w1 hb1 hk
          have K1 := Lib.hid (show Kb w [(b1, poA ⟨x.p0, x.p1, x.p2, x.p3, x.p4, x.p5, x.p6, x.p7, x.p8, x.p9, x.p10, x.p11, x.p12, (u.r : Nat), (u.c : Nat), (u.b : Nat), (u.p : Nat), x.p17, x.p18, x.p19, x.p20⟩, 42)] w1 from hk)
          clear hk hb1
          (try simp only [Act.put, gA, gS, gZ, sA, sZ, sS])
          refine kb_box K1.out 35 (.tmp 2) (vcA v) rfl rfl (by rfl) ?_
          intro b2 w2 hb2 hk
          have K2 := Lib.hid (show Kb w [(b1, poA ⟨x.p0, x.p1, x.p2, x.p3, x.p4, x.p5, x.p6, x.p7, x.p8, x.p9, x.p10, x.p11, x.p12, (u.r : Nat), (u.c : Nat), (u.b : Nat), (u.p : Nat), x.p17, x.p18, x.p19, x.p20⟩, 42), (b2, vcA v, 35)] w2 from hk)
          clear hk hb2
          (try simp only [Act.put, gA, gS, gZ, sA, sZ, sS])
          refine kb_box K2.out 38 (.tmp 3) (cfA c) rfl rfl (by rfl) ?_
          intro b3 w3 hb3 hk
          have K3 := Lib.hid (show Kb w [(b1, poA ⟨x.p0, x.p1, x.p2, x.p3, x.p4, x.p5, x.p6, x.p7, x.p8, x.p9, x.p10, x.p11, x.p12, (u.r : Nat), (u.c : Nat), (u.b : Nat), (u.p : Nat), x.p17, x.p18, x.p19, x.p20⟩, 42), (b2, vcA v, 35), (b3, cfA c, 38)] w3 from hk)
          clear hk hb3
          (try simp only [Act.put, gA, gS, gZ, sA, sZ, sS])
          refine kb_alloc K3.out 42 (nil21) rfl z50 (by rfl) ?_
          intro b4 w4 hb4 hk
          have K4 := Lib.hid (show Kb w [(b1, poA ⟨x.p0, x.p1, x.p2, x.p3, x.p4, x.p5, x.p6, x.p7, x.p8, x.p9, x.p10, x.p11, x.p12, (u.r : Nat), (u.c : Nat), (u.b : Nat), (u.p : Nat), x.p17, x.p18, x.p19, x.p20⟩, 42), (b2, vcA v, 35), (b3, cfA c, 38), (b4, nil21, 42)] w4 from hk)
          clear hk hb4
          (try simp only [Act.put, gA, gS, gZ, sA, sZ, sS])
          refine wv (.bool false) ?_
          (try simp only [Act.put, gA, gS, gZ, sA, sZ, sS])
          refine wv (.bool false) ?_
          (try simp only [Act.put, gA, gS, gZ, sA, sZ, sS])
          refine wpList_nil ?_
          go_upto_region 1 with fail
          refine wp_region_lit ?_
          refine wv (.agg (poA ⟨x.p0, x.p1, x.p2, x.p3, x.p4, x.p5, x.p6, x.p7, x.p8, x.p9, x.p10, x.p11, x.p12, (u.r : Nat), (u.c : Nat), (u.b : Nat), (u.p : Nat), x.p17, x.p18, x.p19, x.p20⟩)) ?_ (hrun := kb_all K4.out 0 rfl 42 _ rfl rfl Try.underlying42 rfl (size50))
          (try simp only [Act.put, gA, gS, gZ, sA, sZ, sS])
          refine kb_alloc K4.out 42 (nil21) rfl z50 (by rfl) ?_
          intro b5 w5 hb5 hk
          have K5 := Lib.hid (show Kb w [(b1, poA ⟨x.p0, x.p1, x.p2, x.p3, x.p4, x.p5, x.p6, x.p7, x.p8, x.p9, x.p10, x.p11, x.p12, (u.r : Nat), (u.c : Nat), (u.b : Nat), (u.p : Nat), x.p17, x.p18, x.p19, x.p20⟩, 42), (b2, vcA v, 35), (b3, cfA c, 38), (b4, nil21, 42), (b5, nil21, 42)] w5 from hk)
          clear hk hb5
          (try simp only [Act.put, gA, gS, gZ, sA, sZ, sS])
          refine kb_row K5.out 4 rfl 42 _ _ (poA ⟨x.p0, x.p1, x.p2, x.p3, x.p4, x.p5, x.p6, x.p7, x.p8, x.p9, x.p10, x.p11, x.p12, (u.r : Nat), (u.c : Nat), (u.b : Nat), (u.p : Nat), x.p17, x.p18, x.p19, x.p20⟩) rfl rfl rfl rfl (size50) (by rfl) (po_all _) ?_
          intro w6 hk
          have K6 := Lib.hid (show Kb w [(b1, poA ⟨x.p0, x.p1, x.p2, x.p3, x.p4, x.p5, x.p6, x.p7, x.p8, x.p9, x.p10, x.p11, x.p12, (u.r : Nat), (u.c : Nat), (u.b : Nat), (u.p : Nat), x.p17, x.p18, x.p19, x.p20⟩, 42), (b2, vcA v, 35), (b3, cfA c, 38), (b4, nil21, 42), (b5, poA ⟨x.p0, x.p1, x.p2, x.p3, x.p4, x.p5, x.p6, x.p7, x.p8, x.p9, x.p10, x.p11, x.p12, (u.r : Nat), (u.c : Nat), (u.b : Nat), (u.p : Nat), x.p17, x.p18, x.p19, x.p20⟩, 42)] w6 from hk)
          clear hk
          (try simp only [Act.put, gA, gS, gZ, sA, sZ, sS])
          refine wv (.bool false) ?_
          (try simp only [Act.put, gA, gS, gZ, sA, sZ, sS])
          refine wpList_nil ?_
          go_upto_region 2 with fail
          refine wp_region_lit ?_
          refine wv (.int .i64 4) ?_
          (try simp only [Act.put, gA, gS, gZ, sA, sZ, sS])
          refine wv (.pointer (some ⟨b1, 10, none⟩)) ?_
          (try simp only [Act.put, gA, gS, gZ, sA, sZ, sS])
          refine kb_set K6.out 0 rfl 3 _ _ 10 (.int .i64 4) rfl (by rfl) rfl rfl (kb_run_set K6.out (i := 0) rfl 3 10 (.int .i64 x.p10) (.int .i64 4) (by rfl) (fun W h1 h2 => by go_simp)) (poA ⟨x.p0, x.p1, x.p2, x.p3, x.p4, x.p5, x.p6, x.p7, x.p8, x.p9, 4, x.p11, x.p12, (u.r : Nat), (u.c : Nat), (u.b : Nat), (u.p : Nat), x.p17, x.p18, x.p19, x.p20⟩) (by kernel_rfl) ?_
          intro w7 hk
          have K7 := Lib.hid (show Kb w [(b1, poA ⟨x.p0, x.p1, x.p2, x.p3, x.p4, x.p5, x.p6, x.p7, x.p8, x.p9, 4, x.p11, x.p12, (u.r : Nat), (u.c : Nat), (u.b : Nat), (u.p : Nat), x.p17, x.p18, x.p19, x.p20⟩, 42), (b2, vcA v, 35), (b3, cfA c, 38), (b4, nil21, 42), (b5, poA ⟨x.p0, x.p1, x.p2, x.p3, x.p4, x.p5, x.p6, x.p7, x.p8, x.p9, x.p10, x.p11, x.p12, (u.r : Nat), (u.c : Nat), (u.b : Nat), (u.p : Nat), x.p17, x.p18, x.p19, x.p20⟩, 42)] w7 from hk)
          clear hk
          (try simp only [Act.put, gA, gS, gZ, sA, sZ, sS])
          refine wpList_nil ?_
          go_upto_region 3 with fail
          refine wp_region_lit ?_
          refine wv (.int .i64 4) ?_
          (try simp only [Act.put, gA, gS, gZ, sA, sZ, sS])
          refine wpList_nil ?_
          go_upto_region 4 with fail
          refine wp_region_lit ?_
          refine wv (.bool false) ?_
          (try simp only [Act.put, gA, gS, gZ, sA, sZ, sS])
          refine wv (.bool false) ?_
          (try simp only [Act.put, gA, gS, gZ, sA, sZ, sS])
          refine wpList_nil ?_
          go_upto_region 5 with fail
          refine wp_region_lit ?_
          refine wv (.bool false) ?_
          (try simp only [Act.put, gA, gS, gZ, sA, sZ, sS])
          refine wv (.bool false) ?_
          (try simp only [Act.put, gA, gS, gZ, sA, sZ, sS])
          refine wpList_nil ?_
          go_upto_region 7 with fail
          refine wp_region_lit ?_
          refine wv (.bool false) ?_
          (try simp only [Act.put, gA, gS, gZ, sA, sZ, sS])
          refine wv (.bool false) ?_
          (try simp only [Act.put, gA, gS, gZ, sA, sZ, sS])
          refine wpList_nil ?_
          go_upto_region 10 with fail
          refine wp_region_lit ?_
          refine wv (.bool true) ?_
          (try simp only [Act.put, gA, gS, gZ, sA, sZ, sS])
          refine wv (.bool true) ?_
          (try simp only [Act.put, gA, gS, gZ, sA, sZ, sS])
          refine wpList_nil ?_
          go_upto_region 11 with fail
          refine wp_region_lit ?_
          refine wv (.agg (poA ⟨x.p0, x.p1, x.p2, x.p3, x.p4, x.p5, x.p6, x.p7, x.p8, x.p9, x.p10, x.p11, x.p12, (u.r : Nat), (u.c : Nat), (u.b : Nat), (u.p : Nat), x.p17, x.p18, x.p19, x.p20⟩)) ?_ (hrun := kb_all K7.out 4 rfl 42 _ rfl rfl Try.underlying42 rfl (size50))
          (try simp only [Act.put, gA, gS, gZ, sA, sZ, sS])
          refine wv (.agg (vcA v)) ?_ (hrun := kb_all K7.out 1 rfl 35 _ rfl rfl Try.underlying35 rfl (sizeV))
          (try simp only [Act.put, gA, gS, gZ, sA, sZ, sS])
          refine wv (.agg (cfA c)) ?_ (hrun := kb_all K7.out 2 rfl 38 _ rfl rfl Try.underlying38 rfl (size34))
          (try simp only [Act.put, gA, gS, gZ, sA, sZ, sS])
          refine kb_call K7.out 15 #[.agg (poA ⟨x.p0, x.p1, x.p2, x.p3, x.p4, x.p5, x.p6, x.p7, x.p8, x.p9, x.p10, x.p11, x.p12, (u.r : Nat), (u.c : Nat), (u.b : Nat), (u.p : Nat), x.p17, x.p18, x.p19, x.p20⟩), .agg (vcA v), .agg (cfA c)] (.tuple #[.agg (poA Q), .bool an]) (by rfl) (by go_simp) (by have q := designate_any x u v c w7; rw [← HQ.out, ← HAN.out] at q; exact q) ?_
          intro w8 hk
          have K8 := Lib.hid (show Kb w [(b1, poA ⟨x.p0, x.p1, x.p2, x.p3, x.p4, x.p5, x.p6, x.p7, x.p8, x.p9, 4, x.p11, x.p12, (u.r : Nat), (u.c : Nat), (u.b : Nat), (u.p : Nat), x.p17, x.p18, x.p19, x.p20⟩, 42), (b2, vcA v, 35), (b3, cfA c, 38), (b4, nil21, 42), (b5, poA ⟨x.p0, x.p1, x.p2, x.p3, x.p4, x.p5, x.p6, x.p7, x.p8, x.p9, x.p10, x.p11, x.p12, (u.r : Nat), (u.c : Nat), (u.b : Nat), (u.p : Nat), x.p17, x.p18, x.p19, x.p20⟩, 42)] w8 from hk)
          clear hk
          (try simp only [Act.put, gA, gS, gZ, sA, sZ, sS])
          refine wv (.tuple #[.agg (poA Q), .bool an]) ?_
          (try simp only [Act.put, gA, gS, gZ, sA, sZ, sS])
          refine wv (.agg (poA Q)) ?_
          (try simp only [Act.put, gA, gS, gZ, sA, sZ, sS])
          refine wv (.bool an) ?_
          (try simp only [Act.put, gA, gS, gZ, sA, sZ, sS])
          refine kb_row K8.out 0 rfl 42 _ _ (poA Q) rfl rfl rfl rfl (size50) (by rfl) (po_all _) ?_
          intro w9 hk
          have K9 := Lib.hid (show Kb w [(b1, poA Q, 42), (b2, vcA v, 35), (b3, cfA c, 38), (b4, nil21, 42), (b5, poA ⟨x.p0, x.p1, x.p2, x.p3, x.p4, x.p5, x.p6, x.p7, x.p8, x.p9, x.p10, x.p11, x.p12, (u.r : Nat), (u.c : Nat), (u.b : Nat), (u.p : Nat), x.p17, x.p18, x.p19, x.p20⟩, 42)] w9 from hk)
          clear hk
          (try simp only [Act.put, gA, gS, gZ, sA, sZ, sS])
          refine wv (.bool an) ?_
          (try simp only [Act.put, gA, gS, gZ, sA, sZ, sS])
          refine wpList_nil ?_
          go_upto_region 12 with fail
          refine wp_region_inv_dc (I := fun L ac w' => ac = AsA5 x Q u v c an op b1 b2 b3 b4 b5 L ∧ Kb w [(b1, poA Q, 42), (b2, vcA v, 35), (b3, cfA c, 38), (b4, bif L 5 then poA Q else nil21, 42), (b5, poA ⟨x.p0, x.p1, x.p2, x.p3, x.p4, x.p5, x.p6, x.p7, x.p8, x.p9, x.p10, x.p11, x.p12, (u.r : Nat), (u.c : Nat), (u.b : Nat), (u.p : Nat), x.p17, x.p18, x.p19, x.p20⟩, 42)] w') (by kernel_rfl) (by kernel_rfl) ⟨by kernel_rfl, K9.out.drew⟩ ?_ ?_
          · intro i hi Lx ac w' hI hL haft hdc
            obtain ⟨rfl, hw⟩ := hI
            match i, hi with
            | 0, _ =>
              have g4 : (AsA5 x Q u v c an op b1 b2 b3 b4 b5 Lx).tmps[4]?.getD undef = .pointer (some ⟨b1, 0, none⟩) := by kernel_rfl
              have e4 : (AsA5 x Q u v c an op b1 b2 b3 b4 b5 Lx).eval (.tmp 4) = .pointer (some ⟨b1, 0, none⟩) := by kernel_rfl
              exact i_val rfl (.agg (poA Q)) w' (by rfl) (kb_all hw 0 rfl 42 _ rfl e4 Try.underlying42 rfl (size50)) ⟨by kernel_rfl, hw⟩
            | 1, _ =>
              have g12 : (AsA5 x Q u v c an op b1 b2 b3 b4 b5 Lx).tmps[12]?.getD undef = .bool an := by kernel_rfl
              have e12 : (AsA5 x Q u v c an op b1 b2 b3 b4 b5 Lx).eval (.tmp 12) = .bool an := by kernel_rfl
              exact i_val rfl (.bool an) w' (by rfl) (by go_simp) ⟨by kernel_rfl, hw⟩
            | 2, _ =>
              have g11 : (AsA5 x Q u v c an op b1 b2 b3 b4 b5 Lx).tmps[11]?.getD undef = .pointer (some ⟨b5, 0, none⟩) := by kernel_rfl
              have e11 : (AsA5 x Q u v c an op b1 b2 b3 b4 b5 Lx).eval (.tmp 11) = .pointer (some ⟨b5, 0, none⟩) := by kernel_rfl
              exact i_val rfl (.agg (poA ⟨x.p0, x.p1, x.p2, x.p3, x.p4, x.p5, x.p6, x.p7, x.p8, x.p9, x.p10, x.p11, x.p12, (u.r : Nat), (u.c : Nat), (u.b : Nat), (u.p : Nat), x.p17, x.p18, x.p19, x.p20⟩)) w' (by rfl) (kb_all hw 4 rfl 42 _ rfl e11 Try.underlying42 rfl (size50)) ⟨by kernel_rfl, hw⟩
            | 3, _ =>
              have g4 : (AsA5 x Q u v c an op b1 b2 b3 b4 b5 Lx).tmps[4]?.getD undef = .pointer (some ⟨b1, 0, none⟩) := by kernel_rfl
              have e4 : (AsA5 x Q u v c an op b1 b2 b3 b4 b5 Lx).eval (.tmp 4) = .pointer (some ⟨b1, 0, none⟩) := by kernel_rfl
              exact i_val rfl (.agg (poA Q)) w' (by rfl) (kb_all hw 0 rfl 42 _ rfl e4 Try.underlying42 rfl (size50)) ⟨by kernel_rfl, hw⟩
            | 4, _ =>
              have h2 := haft 2 (by decide)
              have e40 : (AsA5 x Q u v c an op b1 b2 b3 b4 b5 Lx).eval (.tmp 40) = .agg (poA ⟨x.p0, x.p1, x.p2, x.p3, x.p4, x.p5, x.p6, x.p7, x.p8, x.p9, x.p10, x.p11, x.p12, (u.r : Nat), (u.c : Nat), (u.b : Nat), (u.p : Nat), x.p17, x.p18, x.p19, x.p20⟩) := by show (bif Lx 2 then _ else _) = _; rw [h2]; rfl
              have g40 : (AsA5 x Q u v c an op b1 b2 b3 b4 b5 Lx).tmps[40]?.getD undef = .agg (poA ⟨x.p0, x.p1, x.p2, x.p3, x.p4, x.p5, x.p6, x.p7, x.p8, x.p9, x.p10, x.p11, x.p12, (u.r : Nat), (u.c : Nat), (u.b : Nat), (u.p : Nat), x.p17, x.p18, x.p19, x.p20⟩) := by show (bif Lx 2 then _ else _) = _; rw [h2]; rfl
              have h3 := haft 3 (by decide)
              have e41 : (AsA5 x Q u v c an op b1 b2 b3 b4 b5 Lx).eval (.tmp 41) = .agg (poA Q) := by show (bif Lx 3 then _ else _) = _; rw [h3]; rfl
              have g41 : (AsA5 x Q u v c an op b1 b2 b3 b4 b5 Lx).tmps[41]?.getD undef = .agg (poA Q) := by show (bif Lx 3 then _ else _) = _; rw [h3]; rfl
              exact i_call rfl (.bool op) 16 #[.agg (poA ⟨x.p0, x.p1, x.p2, x.p3, x.p4, x.p5, x.p6, x.p7, x.p8, x.p9, x.p10, x.p11, x.p12, (u.r : Nat), (u.c : Nat), (u.b : Nat), (u.p : Nat), x.p17, x.p18, x.p19, x.p20⟩), .agg (poA Q)] (fun w2 => Below w'.heap.size w' w2) (by rfl) (by go_simp) (opened_is ⟨x.p0, x.p1, x.p2, x.p3, x.p4, x.p5, x.p6, x.p7, x.p8, x.p9, x.p10, x.p11, x.p12, (u.r : Nat), (u.c : Nat), (u.b : Nat), (u.p : Nat), x.p17, x.p18, x.p19, x.p20⟩ Q op HO.out w') (fun w2 hb => ⟨by kernel_rfl, hw.next hb⟩)
            | 5, _ =>
              have g8 : (AsA5 x Q u v c an op b1 b2 b3 b4 b5 Lx).tmps[8]?.getD undef = .pointer (some ⟨b4, 0, none⟩) := by kernel_rfl
              have e8 : (AsA5 x Q u v c an op b1 b2 b3 b4 b5 Lx).eval (.tmp 8) = .pointer (some ⟨b4, 0, none⟩) := by kernel_rfl
              have h0 := haft 0 (by decide)
              have e38 : (AsA5 x Q u v c an op b1 b2 b3 b4 b5 Lx).eval (.tmp 38) = .agg (poA Q) := by show (bif Lx 0 then _ else _) = _; rw [h0]; rfl
              have g38 : (AsA5 x Q u v c an op b1 b2 b3 b4 b5 Lx).tmps[38]?.getD undef = .agg (poA Q) := by show (bif Lx 0 then _ else _) = _; rw [h0]; rfl
              exact i_wp rfl (by rfl) (wp_store_row 42 _ _ rfl b4 (poA Q) e8 e38 42 (bif Lx 5 then poA Q else nil21) (Kb.at (i := 3) hw rfl) (size50) (by rw [hL]; rfl) (po_all _) ⟨by kernel_rfl, cast_blk (Kb.row (i := 3) hw rfl (poA Q)) (by rfl)⟩)
            | 6, _ =>
              have h1 := haft 1 (by decide)
              have e39 : (AsA5 x Q u v c an op b1 b2 b3 b4 b5 Lx).eval (.tmp 39) = .bool an := by show (bif Lx 1 then _ else _) = _; rw [h1]; rfl
              have g39 : (AsA5 x Q u v c an op b1 b2 b3 b4 b5 Lx).tmps[39]?.getD undef = .bool an := by show (bif Lx 1 then _ else _) = _; rw [h1]; rfl
              exact i_val rfl (.bool an) w' (by rfl) (by go_simp) ⟨by kernel_rfl, hw⟩
            | 7, _ =>
              have h4 := haft 4 (by decide)
              have e42 : (AsA5 x Q u v c an op b1 b2 b3 b4 b5 Lx).eval (.tmp 42) = .bool op := by show (bif Lx 4 then _ else _) = _; rw [h4]; rfl
              have g42 : (AsA5 x Q u v c an op b1 b2 b3 b4 b5 Lx).tmps[42]?.getD undef = .bool op := by show (bif Lx 4 then _ else _) = _; rw [h4]; rfl
              exact i_val rfl (.bool op) w' (by rfl) (by go_simp) ⟨by kernel_rfl, hw⟩
            | k + 8, h =>
              exfalso
              have h2 : k + 8 < 8 := h
              omega
          intro Lx ac w10 hI hall
          obtain ⟨rfl, hw⟩ := hI
          have hfr : AsA5 x Q u v c an op b1 b2 b3 b4 b5 Lx = { tmps := #[.agg (poA ⟨x.p0, x.p1, x.p2, x.p3, x.p4, x.p5, x.p6, x.p7, x.p8, x.p9, x.p10, x.p11, x.p12, (u.r : Nat), (u.c : Nat), (u.b : Nat), (u.p : Nat), x.p17, x.p18, x.p19, x.p20⟩), .int .i64 4, .agg (vcA v), .agg (cfA c), .pointer (some ⟨b1, 0, none⟩), undef, .pointer (some ⟨b2, 0, none⟩), .pointer (some ⟨b3, 0, none⟩), .pointer (some ⟨b4, 0, none⟩), .bool an, .bool op, .pointer (some ⟨b5, 0, none⟩), .bool an, .agg (poA ⟨x.p0, x.p1, x.p2, x.p3, x.p4, x.p5, x.p6, x.p7, x.p8, x.p9, x.p10, x.p11, x.p12, (u.r : Nat), (u.c : Nat), (u.b : Nat), (u.p : Nat), x.p17, x.p18, x.p19, x.p20⟩), .int .i64 4, .pointer (some ⟨b1, 10, none⟩), .int .i64 4, .bool false, .bool false, .bool false, undef, undef, .bool false, .bool false, undef, undef, undef, undef, undef, .bool true, .bool true, .tuple #[.agg (poA Q), .bool an], .agg (poA ⟨x.p0, x.p1, x.p2, x.p3, x.p4, x.p5, x.p6, x.p7, x.p8, x.p9, x.p10, x.p11, x.p12, (u.r : Nat), (u.c : Nat), (u.b : Nat), (u.p : Nat), x.p17, x.p18, x.p19, x.p20⟩), .agg (vcA v), .agg (cfA c), .tuple #[.agg (poA Q), .bool an], .agg (poA Q), .bool an, .agg (poA Q), .bool an, .agg (poA ⟨x.p0, x.p1, x.p2, x.p3, x.p4, x.p5, x.p6, x.p7, x.p8, x.p9, x.p10, x.p11, x.p12, (u.r : Nat), (u.c : Nat), (u.b : Nat), (u.p : Nat), x.p17, x.p18, x.p19, x.p20⟩), .agg (poA Q), .bool op], defers := [] } := by unfold AsA5; simp only [hall 0 (by decide), hall 1 (by decide), hall 2 (by decide), hall 3 (by decide), hall 4 (by decide), hall 6 (by decide), hall 7 (by decide), cond_true]
          rw [hfr]
          clear hfr
          have hL5 := hall 5 (by decide)
          simp only [hL5, cond_true] at hw
          have K10 := Lib.hid (show Kb w [(b1, poA Q, 42), (b2, vcA v, 35), (b3, cfA c, 38), (b4, poA Q, 42), (b5, poA ⟨x.p0, x.p1, x.p2, x.p3, x.p4, x.p5, x.p6, x.p7, x.p8, x.p9, x.p10, x.p11, x.p12, (u.r : Nat), (u.c : Nat), (u.b : Nat), (u.p : Nat), x.p17, x.p18, x.p19, x.p20⟩, 42)] w10 from hw)
          clear hw hall hL5
          go_wp2_with fail
          refine bodyPost_ret (v := .tuple #[.agg (poA Q), .bool an, .bool op]) (results_row_tmp2 Try.results9 _ _ b4 42 (poA Q) (.bool an) (.bool op) _ rfl rfl rfl (K10.out.at (i := 3) rfl) Try.underlying42 rfl (po_info _)) rfl ?_
          exact ⟨rfl, K10.out.below⟩
        case neg =>
          have hq : Q = roleP x u r := by rw [hQ]; simp [assumeP, h1, h2, h3, h4]
          have ha : an = false := by rw [hA]; simp [assumeN, h1, h2, h3, h4]
          clear hQ hA
          subst ha
          have H1 := Lib.hid h1
          have H2 := Lib.hid h2
          have H3 := Lib.hid h3
          have H4 := Lib.hid h4
          clear h1 h2 h3 h4
          have HQ := Lib.hid hq
          clear hq
          have K := Lib.hid (Kb.nil w)
          go_enter Try.func9, Try.ntmps9
          go_upto_region 0 with fail
          refine wp_region_lit ?_
          refine kb_box K.out 42 (.tmp 0) (poA ⟨x.p0, x.p1, x.p2, x.p3, x.p4, x.p5, x.p6, x.p7, x.p8, x.p9, x.p10, x.p11, x.p12, (u.r : Nat), (u.c : Nat), (u.b : Nat), (u.p : Nat), x.p17, x.p18, x.p19, x.p20⟩) rfl rfl (by rfl) ?_
          intro b1 w1 hb1 hk
          have K1 := Lib.hid (show Kb w [(b1, poA ⟨x.p0, x.p1, x.p2, x.p3, x.p4, x.p5, x.p6, x.p7, x.p8, x.p9, x.p10, x.p11, x.p12, (u.r : Nat), (u.c : Nat), (u.b : Nat), (u.p : Nat), x.p17, x.p18, x.p19, x.p20⟩, 42)] w1 from hk)
          clear hk hb1
          (try simp only [Act.put, gA, gS, gZ, sA, sZ, sS])
          refine kb_box K1.out 35 (.tmp 2) (vcA v) rfl rfl (by rfl) ?_
          intro b2 w2 hb2 hk
          have K2 := Lib.hid (show Kb w [(b1, poA ⟨x.p0, x.p1, x.p2, x.p3, x.p4, x.p5, x.p6, x.p7, x.p8, x.p9, x.p10, x.p11, x.p12, (u.r : Nat), (u.c : Nat), (u.b : Nat), (u.p : Nat), x.p17, x.p18, x.p19, x.p20⟩, 42), (b2, vcA v, 35)] w2 from hk)
          clear hk hb2
          (try simp only [Act.put, gA, gS, gZ, sA, sZ, sS])
          refine kb_box K2.out 38 (.tmp 3) (cfA c) rfl rfl (by rfl) ?_
          intro b3 w3 hb3 hk
          have K3 := Lib.hid (show Kb w [(b1, poA ⟨x.p0, x.p1, x.p2, x.p3, x.p4, x.p5, x.p6, x.p7, x.p8, x.p9, x.p10, x.p11, x.p12, (u.r : Nat), (u.c : Nat), (u.b : Nat), (u.p : Nat), x.p17, x.p18, x.p19, x.p20⟩, 42), (b2, vcA v, 35), (b3, cfA c, 38)] w3 from hk)
          clear hk hb3
          (try simp only [Act.put, gA, gS, gZ, sA, sZ, sS])
          refine kb_alloc K3.out 42 (nil21) rfl z50 (by rfl) ?_
          intro b4 w4 hb4 hk
          have K4 := Lib.hid (show Kb w [(b1, poA ⟨x.p0, x.p1, x.p2, x.p3, x.p4, x.p5, x.p6, x.p7, x.p8, x.p9, x.p10, x.p11, x.p12, (u.r : Nat), (u.c : Nat), (u.b : Nat), (u.p : Nat), x.p17, x.p18, x.p19, x.p20⟩, 42), (b2, vcA v, 35), (b3, cfA c, 38), (b4, nil21, 42)] w4 from hk)
          clear hk hb4
          (try simp only [Act.put, gA, gS, gZ, sA, sZ, sS])
          refine wv (.bool false) ?_
          (try simp only [Act.put, gA, gS, gZ, sA, sZ, sS])
          refine wv (.bool false) ?_
          (try simp only [Act.put, gA, gS, gZ, sA, sZ, sS])
          refine wpList_nil ?_
          go_upto_region 1 with fail
          refine wp_region_lit ?_
          refine wv (.agg (poA ⟨x.p0, x.p1, x.p2, x.p3, x.p4, x.p5, x.p6, x.p7, x.p8, x.p9, x.p10, x.p11, x.p12, (u.r : Nat), (u.c : Nat), (u.b : Nat), (u.p : Nat), x.p17, x.p18, x.p19, x.p20⟩)) ?_ (hrun := kb_all K4.out 0 rfl 42 _ rfl rfl Try.underlying42 rfl (size50))
          (try simp only [Act.put, gA, gS, gZ, sA, sZ, sS])
          refine kb_alloc K4.out 42 (nil21) rfl z50 (by rfl) ?_
          intro b5 w5 hb5 hk
          have K5 := Lib.hid (show Kb w [(b1, poA ⟨x.p0, x.p1, x.p2, x.p3, x.p4, x.p5, x.p6, x.p7, x.p8, x.p9, x.p10, x.p11, x.p12, (u.r : Nat), (u.c : Nat), (u.b : Nat), (u.p : Nat), x.p17, x.p18, x.p19, x.p20⟩, 42), (b2, vcA v, 35), (b3, cfA c, 38), (b4, nil21, 42), (b5, nil21, 42)] w5 from hk)
          clear hk hb5
          (try simp only [Act.put, gA, gS, gZ, sA, sZ, sS])
          refine kb_row K5.out 4 rfl 42 _ _ (poA ⟨x.p0, x.p1, x.p2, x.p3, x.p4, x.p5, x.p6, x.p7, x.p8, x.p9, x.p10, x.p11, x.p12, (u.r : Nat), (u.c : Nat), (u.b : Nat), (u.p : Nat), x.p17, x.p18, x.p19, x.p20⟩) rfl rfl rfl rfl (size50) (by rfl) (po_all _) ?_
          intro w6 hk
          have K6 := Lib.hid (show Kb w [(b1, poA ⟨x.p0, x.p1, x.p2, x.p3, x.p4, x.p5, x.p6, x.p7, x.p8, x.p9, x.p10, x.p11, x.p12, (u.r : Nat), (u.c : Nat), (u.b : Nat), (u.p : Nat), x.p17, x.p18, x.p19, x.p20⟩, 42), (b2, vcA v, 35), (b3, cfA c, 38), (b4, nil21, 42), (b5, poA ⟨x.p0, x.p1, x.p2, x.p3, x.p4, x.p5, x.p6, x.p7, x.p8, x.p9, x.p10, x.p11, x.p12, (u.r : Nat), (u.c : Nat), (u.b : Nat), (u.p : Nat), x.p17, x.p18, x.p19, x.p20⟩, 42)] w6 from hk)
          clear hk
          (try simp only [Act.put, gA, gS, gZ, sA, sZ, sS])
          refine wv (.bool false) ?_
          (try simp only [Act.put, gA, gS, gZ, sA, sZ, sS])
          refine wpList_nil ?_
          go_upto_region 2 with fail
          refine wp_region_lit ?_
          refine wv (.int .i64 r) ?_
          (try simp only [Act.put, gA, gS, gZ, sA, sZ, sS])
          refine wv (.pointer (some ⟨b1, 10, none⟩)) ?_
          (try simp only [Act.put, gA, gS, gZ, sA, sZ, sS])
          refine kb_set K6.out 0 rfl 3 _ _ 10 (.int .i64 r) rfl (by rfl) rfl rfl (kb_run_set K6.out (i := 0) rfl 3 10 (.int .i64 x.p10) (.int .i64 r) (by rfl) (fun W h1 h2 => by go_simp)) (poA ⟨x.p0, x.p1, x.p2, x.p3, x.p4, x.p5, x.p6, x.p7, x.p8, x.p9, r, x.p11, x.p12, (u.r : Nat), (u.c : Nat), (u.b : Nat), (u.p : Nat), x.p17, x.p18, x.p19, x.p20⟩) (by kernel_rfl) ?_
          intro w7 hk
          have K7 := Lib.hid (show Kb w [(b1, poA ⟨x.p0, x.p1, x.p2, x.p3, x.p4, x.p5, x.p6, x.p7, x.p8, x.p9, r, x.p11, x.p12, (u.r : Nat), (u.c : Nat), (u.b : Nat), (u.p : Nat), x.p17, x.p18, x.p19, x.p20⟩, 42), (b2, vcA v, 35), (b3, cfA c, 38), (b4, nil21, 42), (b5, poA ⟨x.p0, x.p1, x.p2, x.p3, x.p4, x.p5, x.p6, x.p7, x.p8, x.p9, x.p10, x.p11, x.p12, (u.r : Nat), (u.c : Nat), (u.b : Nat), (u.p : Nat), x.p17, x.p18, x.p19, x.p20⟩, 42)] w7 from hk)
          clear hk
          (try simp only [Act.put, gA, gS, gZ, sA, sZ, sS])
          refine wpList_nil ?_
          go_upto_region 3 with fail
          refine wp_region_lit ?_
          refine wv (.int .i64 r) ?_
          (try simp only [Act.put, gA, gS, gZ, sA, sZ, sS])
          refine wpList_nil ?_
          go_upto_region 4 with fail
          refine wp_region_lit ?_
          refine wv (.bool false) ?_ (hrun := by have q := H1.out; go_simp)
          (try simp only [Act.put, gA, gS, gZ, sA, sZ, sS])
          refine wv (.bool false) ?_
          (try simp only [Act.put, gA, gS, gZ, sA, sZ, sS])
          refine wpList_nil ?_
          go_upto_region 5 with fail
          refine wp_region_lit ?_
          refine wv (.bool false) ?_ (hrun := by have q := H2.out; go_simp)
          (try simp only [Act.put, gA, gS, gZ, sA, sZ, sS])
          refine wv (.bool false) ?_
          (try simp only [Act.put, gA, gS, gZ, sA, sZ, sS])
          refine wpList_nil ?_
          go_upto_region 7 with fail
          refine wp_region_lit ?_
          refine wv (.bool false) ?_ (hrun := by have q := H3.out; go_simp)
          (try simp only [Act.put, gA, gS, gZ, sA, sZ, sS])
          refine wv (.bool false) ?_
          (try simp only [Act.put, gA, gS, gZ, sA, sZ, sS])
          refine wpList_nil ?_
          go_upto_region 10 with fail
          refine wp_region_lit ?_
          refine wv (.bool false) ?_ (hrun := by have q := H4.out; go_simp)
          (try simp only [Act.put, gA, gS, gZ, sA, sZ, sS])
          refine wv (.bool false) ?_
          (try simp only [Act.put, gA, gS, gZ, sA, sZ, sS])
          refine wpList_nil ?_
          have hQq : poA Q = poA ⟨x.p0, x.p1, x.p2, x.p3, x.p4, x.p5, x.p6, x.p7, x.p8, x.p9, r, x.p11, x.p12, (u.r : Nat), (u.c : Nat), (u.b : Nat), (u.p : Nat), x.p17, x.p18, x.p19, x.p20⟩ := by rw [HQ.out]; rfl
          have KQ := Lib.hid (show Kb w [(b1, poA Q, 42), (b2, vcA v, 35), (b3, cfA c, 38), (b4, nil21, 42), (b5, poA ⟨x.p0, x.p1, x.p2, x.p3, x.p4, x.p5, x.p6, x.p7, x.p8, x.p9, x.p10, x.p11, x.p12, (u.r : Nat), (u.c : Nat), (u.b : Nat), (u.p : Nat), x.p17, x.p18, x.p19, x.p20⟩, 42)] w7 from by rw [hQq]; exact K7.out)
          clear hQq
          go_upto_region 12 with fail
          refine wp_region_inv_dc (I := fun L ac w' => ac = AsA6 x Q u v c r op b1 b2 b3 b4 b5 L ∧ Kb w [(b1, poA Q, 42), (b2, vcA v, 35), (b3, cfA c, 38), (b4, bif L 5 then poA Q else nil21, 42), (b5, poA ⟨x.p0, x.p1, x.p2, x.p3, x.p4, x.p5, x.p6, x.p7, x.p8, x.p9, x.p10, x.p11, x.p12, (u.r : Nat), (u.c : Nat), (u.b : Nat), (u.p : Nat), x.p17, x.p18, x.p19, x.p20⟩, 42)] w') (by kernel_rfl) (by kernel_rfl) ⟨by kernel_rfl, KQ.out.drew⟩ ?_ ?_
          · intro i hi Lx ac w' hI hL haft hdc
            obtain ⟨rfl, hw⟩ := hI
            match i, hi with
            | 0, _ =>
              have g4 : (AsA6 x Q u v c r op b1 b2 b3 b4 b5 Lx).tmps[4]?.getD undef = .pointer (some ⟨b1, 0, none⟩) := by kernel_rfl
              have e4 : (AsA6 x Q u v c r op b1 b2 b3 b4 b5 Lx).eval (.tmp 4) = .pointer (some ⟨b1, 0, none⟩) := by kernel_rfl
              exact i_val rfl (.agg (poA Q)) w' (by rfl) (kb_all hw 0 rfl 42 _ rfl e4 Try.underlying42 rfl (size50)) ⟨by kernel_rfl, hw⟩
            | 1, _ =>
              have g12 : (AsA6 x Q u v c r op b1 b2 b3 b4 b5 Lx).tmps[12]?.getD undef = .bool false := by kernel_rfl
              have e12 : (AsA6 x Q u v c r op b1 b2 b3 b4 b5 Lx).eval (.tmp 12) = .bool false := by kernel_rfl
              exact i_val rfl (.bool false) w' (by rfl) (by go_simp) ⟨by kernel_rfl, hw⟩
            | 2, _ =>
              have g11 : (AsA6 x Q u v c r op b1 b2 b3 b4 b5 Lx).tmps[11]?.getD undef = .pointer (some ⟨b5, 0, none⟩) := by kernel_rfl
              have e11 : (AsA6 x Q u v c r op b1 b2 b3 b4 b5 Lx).eval (.tmp 11) = .pointer (some ⟨b5, 0, none⟩) := by kernel_rfl
              exact i_val rfl (.agg (poA ⟨x.p0, x.p1, x.p2, x.p3, x.p4, x.p5, x.p6, x.p7, x.p8, x.p9, x.p10, x.p11, x.p12, (u.r : Nat), (u.c : Nat), (u.b : Nat), (u.p : Nat), x.p17, x.p18, x.p19, x.p20⟩)) w' (by rfl) (kb_all hw 4 rfl 42 _ rfl e11 Try.underlying42 rfl (size50)) ⟨by kernel_rfl, hw⟩
            | 3, _ =>
              have g4 : (AsA6 x Q u v c r op b1 b2 b3 b4 b5 Lx).tmps[4]?.getD undef = .pointer (some ⟨b1, 0, none⟩) := by kernel_rfl
              have e4 : (AsA6 x Q u v c r op b1 b2 b3 b4 b5 Lx).eval (.tmp 4) = .pointer (some ⟨b1, 0, none⟩) := by kernel_rfl
              exact i_val rfl (.agg (poA Q)) w' (by rfl) (kb_all hw 0 rfl 42 _ rfl e4 Try.underlying42 rfl (size50)) ⟨by kernel_rfl, hw⟩
            | 4, _ =>
              have h2 := haft 2 (by decide)
              have e40 : (AsA6 x Q u v c r op b1 b2 b3 b4 b5 Lx).eval (.tmp 40) = .agg (poA ⟨x.p0, x.p1, x.p2, x.p3, x.p4, x.p5, x.p6, x.p7, x.p8, x.p9, x.p10, x.p11, x.p12, (u.r : Nat), (u.c : Nat), (u.b : Nat), (u.p : Nat), x.p17, x.p18, x.p19, x.p20⟩) := by show (bif Lx 2 then _ else _) = _; rw [h2]; rfl
              have g40 : (AsA6 x Q u v c r op b1 b2 b3 b4 b5 Lx).tmps[40]?.getD undef = .agg (poA ⟨x.p0, x.p1, x.p2, x.p3, x.p4, x.p5, x.p6, x.p7, x.p8, x.p9, x.p10, x.p11, x.p12, (u.r : Nat), (u.c : Nat), (u.b : Nat), (u.p : Nat), x.p17, x.p18, x.p19, x.p20⟩) := by show (bif Lx 2 then _ else _) = _; rw [h2]; rfl
              have h3 := haft 3 (by decide)
              have e41 : (AsA6 x Q u v c r op b1 b2 b3 b4 b5 Lx).eval (.tmp 41) = .agg (poA Q) := by show (bif Lx 3 then _ else _) = _; rw [h3]; rfl
              have g41 : (AsA6 x Q u v c r op b1 b2 b3 b4 b5 Lx).tmps[41]?.getD undef = .agg (poA Q) := by show (bif Lx 3 then _ else _) = _; rw [h3]; rfl
              exact i_call rfl (.bool op) 16 #[.agg (poA ⟨x.p0, x.p1, x.p2, x.p3, x.p4, x.p5, x.p6, x.p7, x.p8, x.p9, x.p10, x.p11, x.p12, (u.r : Nat), (u.c : Nat), (u.b : Nat), (u.p : Nat), x.p17, x.p18, x.p19, x.p20⟩), .agg (poA Q)] (fun w2 => Below w'.heap.size w' w2) (by rfl) (by go_simp) (opened_is ⟨x.p0, x.p1, x.p2, x.p3, x.p4, x.p5, x.p6, x.p7, x.p8, x.p9, x.p10, x.p11, x.p12, (u.r : Nat), (u.c : Nat), (u.b : Nat), (u.p : Nat), x.p17, x.p18, x.p19, x.p20⟩ Q op HO.out w') (fun w2 hb => ⟨by kernel_rfl, hw.next hb⟩)
            | 5, _ =>
              have g8 : (AsA6 x Q u v c r op b1 b2 b3 b4 b5 Lx).tmps[8]?.getD undef = .pointer (some ⟨b4, 0, none⟩) := by kernel_rfl
              have e8 : (AsA6 x Q u v c r op b1 b2 b3 b4 b5 Lx).eval (.tmp 8) = .pointer (some ⟨b4, 0, none⟩) := by kernel_rfl
              have h0 := haft 0 (by decide)
              have e38 : (AsA6 x Q u v c r op b1 b2 b3 b4 b5 Lx).eval (.tmp 38) = .agg (poA Q) := by show (bif Lx 0 then _ else _) = _; rw [h0]; rfl
              have g38 : (AsA6 x Q u v c r op b1 b2 b3 b4 b5 Lx).tmps[38]?.getD undef = .agg (poA Q) := by show (bif Lx 0 then _ else _) = _; rw [h0]; rfl
              exact i_wp rfl (by rfl) (wp_store_row 42 _ _ rfl b4 (poA Q) e8 e38 42 (bif Lx 5 then poA Q else nil21) (Kb.at (i := 3) hw rfl) (size50) (by rw [hL]; rfl) (po_all _) ⟨by kernel_rfl, cast_blk (Kb.row (i := 3) hw rfl (poA Q)) (by rfl)⟩)
            | 6, _ =>
              have h1 := haft 1 (by decide)
              have e39 : (AsA6 x Q u v c r op b1 b2 b3 b4 b5 Lx).eval (.tmp 39) = .bool false := by show (bif Lx 1 then _ else _) = _; rw [h1]; rfl
              have g39 : (AsA6 x Q u v c r op b1 b2 b3 b4 b5 Lx).tmps[39]?.getD undef = .bool false := by show (bif Lx 1 then _ else _) = _; rw [h1]; rfl
              exact i_val rfl (.bool false) w' (by rfl) (by go_simp) ⟨by kernel_rfl, hw⟩
            | 7, _ =>
              have h4 := haft 4 (by decide)
              have e42 : (AsA6 x Q u v c r op b1 b2 b3 b4 b5 Lx).eval (.tmp 42) = .bool op := by show (bif Lx 4 then _ else _) = _; rw [h4]; rfl
              have g42 : (AsA6 x Q u v c r op b1 b2 b3 b4 b5 Lx).tmps[42]?.getD undef = .bool op := by show (bif Lx 4 then _ else _) = _; rw [h4]; rfl
              exact i_val rfl (.bool op) w' (by rfl) (by go_simp) ⟨by kernel_rfl, hw⟩
            | k + 8, h =>
              exfalso
              have h2 : k + 8 < 8 := h
              omega
          intro Lx ac w8 hI hall
          obtain ⟨rfl, hw⟩ := hI
          have hfr : AsA6 x Q u v c r op b1 b2 b3 b4 b5 Lx = { tmps := #[.agg (poA ⟨x.p0, x.p1, x.p2, x.p3, x.p4, x.p5, x.p6, x.p7, x.p8, x.p9, x.p10, x.p11, x.p12, (u.r : Nat), (u.c : Nat), (u.b : Nat), (u.p : Nat), x.p17, x.p18, x.p19, x.p20⟩), .int .i64 r, .agg (vcA v), .agg (cfA c), .pointer (some ⟨b1, 0, none⟩), undef, .pointer (some ⟨b2, 0, none⟩), .pointer (some ⟨b3, 0, none⟩), .pointer (some ⟨b4, 0, none⟩), .bool false, .bool op, .pointer (some ⟨b5, 0, none⟩), .bool false, .agg (poA ⟨x.p0, x.p1, x.p2, x.p3, x.p4, x.p5, x.p6, x.p7, x.p8, x.p9, x.p10, x.p11, x.p12, (u.r : Nat), (u.c : Nat), (u.b : Nat), (u.p : Nat), x.p17, x.p18, x.p19, x.p20⟩), .int .i64 r, .pointer (some ⟨b1, 10, none⟩), .int .i64 r, .bool false, .bool false, .bool false, undef, undef, .bool false, .bool false, undef, undef, undef, undef, undef, .bool false, .bool false, undef, undef, undef, undef, undef, undef, undef, .agg (poA Q), .bool false, .agg (poA ⟨x.p0, x.p1, x.p2, x.p3, x.p4, x.p5, x.p6, x.p7, x.p8, x.p9, x.p10, x.p11, x.p12, (u.r : Nat), (u.c : Nat), (u.b : Nat), (u.p : Nat), x.p17, x.p18, x.p19, x.p20⟩), .agg (poA Q), .bool op], defers := [] } := by unfold AsA6; simp only [hall 0 (by decide), hall 1 (by decide), hall 2 (by decide), hall 3 (by decide), hall 4 (by decide), hall 6 (by decide), hall 7 (by decide), cond_true]
          rw [hfr]
          clear hfr
          have hL5 := hall 5 (by decide)
          simp only [hL5, cond_true] at hw
          have K8 := Lib.hid (show Kb w [(b1, poA Q, 42), (b2, vcA v, 35), (b3, cfA c, 38), (b4, poA Q, 42), (b5, poA ⟨x.p0, x.p1, x.p2, x.p3, x.p4, x.p5, x.p6, x.p7, x.p8, x.p9, x.p10, x.p11, x.p12, (u.r : Nat), (u.c : Nat), (u.b : Nat), (u.p : Nat), x.p17, x.p18, x.p19, x.p20⟩, 42)] w8 from hw)
          clear hw hall hL5
          go_wp2_with fail
          refine bodyPost_ret (v := .tuple #[.agg (poA Q), .bool false, .bool op]) (results_row_tmp2 Try.results9 _ _ b4 42 (poA Q) (.bool false) (.bool op) _ rfl rfl rfl (K8.out.at (i := 3) rfl) Try.underlying42 rfl (po_info _)) rfl ?_
          exact ⟨rfl, K8.out.below⟩
end Go.Proofs.Yteeinlbhcdpnnaa
