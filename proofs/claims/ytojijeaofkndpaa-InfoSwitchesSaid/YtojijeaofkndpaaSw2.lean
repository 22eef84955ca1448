/- InfoSwitches. -/
import Derived.Test.YtojijeaofkndpaaIn6
namespace Go.Proofs.Ytojijeaofkndpaa
open Go.RowKit
attribute [local irreducible] wpQuiet wpList
set_option linter.unusedSimpArgs false
set_option linter.unusedVariables false

/-- The slots, while the region runs. -/
def SwA20 (x : Lp) (dl : Int) (ad : Bool) (t1 : Bool) (b1 b2 b5 b8 : Nat) (L : Nat → Bool) : Act := { tmps := #[.agg (lpA x), .agg (#[.bool false, .bool t1]), .int .i64 dl, .pointer (some ⟨b1, 0, none⟩), .pointer (some ⟨b2, 0, none⟩), undef, .bool false, .pointer (some ⟨b5, 0, none⟩), .pointer (some ⟨b8, 0, none⟩), bif L 12 then .bool true else undef, bif L 13 then .bool false else undef, .bool true, .bool false, .agg (lpA x), .agg (poA ⟨0, 0, false, 0, (IntKind.i64.wrap (Int.tmod (x.no : Nat) 16)), x.f4, true, true, x.f2, x.f3, (IntKind.i64.wrap (Int.tmod (x.n0 : Nat) 5)), (IntKind.i64.wrap (Int.tmod (x.n1 : Nat) 3)), (IntKind.i64.wrap (Int.tmod (x.n2 : Nat) 3)), (x.v.r : Nat), (x.v.c : Nat), (x.v.b : Nat), (x.v.p : Nat), x.k0, x.k1, x.k2, x.k3⟩), .agg (poA ⟨0, 0, false, 0, (IntKind.i64.wrap (Int.tmod (x.no : Nat) 16)), x.f4, true, true, x.f2, x.f3, (IntKind.i64.wrap (Int.tmod (x.n0 : Nat) 5)), (IntKind.i64.wrap (Int.tmod (x.n1 : Nat) 3)), (IntKind.i64.wrap (Int.tmod (x.n2 : Nat) 3)), (x.v.r : Nat), (x.v.c : Nat), (x.v.b : Nat), (x.v.p : Nat), x.k0, x.k1, x.k2, x.k3⟩), .pointer (some ⟨b2, 0, none⟩), .bool false, .pointer (some ⟨b2, 1, none⟩), .bool t1, .int .i64 dl, .agg (cfA ⟨0, 0, 0, dl, 0, 0⟩), .agg (poA ⟨0, 0, false, 0, (IntKind.i64.wrap (Int.tmod (x.no : Nat) 16)), x.f4, t1, false, false, false, 0, 0, 0, 0, 0, 0, 0, 0, 0, 0, 0⟩), bif L 0 then .pointer (some ⟨b5, 7, none⟩) else undef, bif L 1 then .bool true else undef, bif L 2 then .bool true else undef, bif L 3 then .pointer (some ⟨b5, 6, none⟩) else undef, bif L 4 then .bool true else undef, bif L 5 then .bool true else undef, bif L 6 then .pointer (some ⟨b2, 0, none⟩) else undef, bif L 7 then .bool false else undef, bif L 8 then .bool false else undef, bif L 9 then undef else undef, bif L 10 then undef else undef, bif L 11 then .bool false else undef, undef, undef, undef, undef, undef, undef, undef, undef, undef, undef, undef, undef, undef, undef, undef, undef, undef, undef, undef, undef, undef, undef, undef, undef, undef, undef, undef, undef, undef, undef], defers := [] }
/-- The slots, while the region runs. -/
def SwB20 (x : Lp) (dl : Int) (ad : Bool) (t1 : Bool) (b1 b2 b5 b8 : Nat) (L : Nat → Bool) : Act := { tmps := #[.agg (lpA x), .agg (#[.bool false, .bool t1]), .int .i64 dl, .pointer (some ⟨b1, 0, none⟩), .pointer (some ⟨b2, 0, none⟩), undef, .bool false, .pointer (some ⟨b5, 0, none⟩), .pointer (some ⟨b8, 0, none⟩), .bool true, .bool false, .bool true, .bool false, .agg (lpA x), .agg (poA ⟨0, 0, false, 0, (IntKind.i64.wrap (Int.tmod (x.no : Nat) 16)), x.f4, true, true, x.f2, x.f3, (IntKind.i64.wrap (Int.tmod (x.n0 : Nat) 5)), (IntKind.i64.wrap (Int.tmod (x.n1 : Nat) 3)), (IntKind.i64.wrap (Int.tmod (x.n2 : Nat) 3)), (x.v.r : Nat), (x.v.c : Nat), (x.v.b : Nat), (x.v.p : Nat), x.k0, x.k1, x.k2, x.k3⟩), .agg (poA ⟨0, 0, false, 0, (IntKind.i64.wrap (Int.tmod (x.no : Nat) 16)), x.f4, true, true, x.f2, x.f3, (IntKind.i64.wrap (Int.tmod (x.n0 : Nat) 5)), (IntKind.i64.wrap (Int.tmod (x.n1 : Nat) 3)), (IntKind.i64.wrap (Int.tmod (x.n2 : Nat) 3)), (x.v.r : Nat), (x.v.c : Nat), (x.v.b : Nat), (x.v.p : Nat), x.k0, x.k1, x.k2, x.k3⟩), .pointer (some ⟨b2, 0, none⟩), .bool false, .pointer (some ⟨b2, 1, none⟩), .bool t1, .int .i64 dl, .agg (cfA ⟨0, 0, 0, dl, 0, 0⟩), .agg (poA ⟨0, 0, false, 0, (IntKind.i64.wrap (Int.tmod (x.no : Nat) 16)), x.f4, t1, false, false, false, 0, 0, 0, 0, 0, 0, 0, 0, 0, 0, 0⟩), .pointer (some ⟨b5, 7, none⟩), .bool true, .bool true, .pointer (some ⟨b5, 6, none⟩), .bool true, .bool true, .pointer (some ⟨b2, 0, none⟩), .bool false, .bool false, undef, undef, .bool false, bif L 0 then .pointer (some ⟨b2, 0, none⟩) else undef, bif L 1 then .bool false else undef, bif L 2 then .pointer (some ⟨b2, 1, none⟩) else undef, bif L 3 then .bool t1 else undef, bif L 4 then .pointer (some ⟨b5, 7, none⟩) else undef, bif L 6 then .pointer (some ⟨b5, 6, none⟩) else undef, undef, undef, undef, undef, undef, undef, undef, undef, undef, undef, undef, undef, undef, undef, undef, undef, undef, undef, undef, undef, undef, undef, undef, undef], defers := [] }
/-- The slots, while the region runs. -/
def SwA21 (x : Lp) (dl : Int) (ad : Bool) (b1 b2 b5 b8 : Nat) (L : Nat → Bool) : Act := { tmps := #[.agg (lpA x), .agg (#[.bool true, .bool false]), .int .i64 dl, .pointer (some ⟨b1, 0, none⟩), .pointer (some ⟨b2, 0, none⟩), undef, .bool false, .pointer (some ⟨b5, 0, none⟩), .pointer (some ⟨b8, 0, none⟩), bif L 12 then .bool true else undef, bif L 13 then .bool false else undef, .bool true, .bool false, .agg (lpA x), .agg (poA ⟨0, 0, false, 0, (IntKind.i64.wrap (Int.tmod (x.no : Nat) 16)), x.f4, true, true, x.f2, x.f3, (IntKind.i64.wrap (Int.tmod (x.n0 : Nat) 5)), (IntKind.i64.wrap (Int.tmod (x.n1 : Nat) 3)), (IntKind.i64.wrap (Int.tmod (x.n2 : Nat) 3)), (x.v.r : Nat), (x.v.c : Nat), (x.v.b : Nat), (x.v.p : Nat), x.k0, x.k1, x.k2, x.k3⟩), .agg (poA ⟨0, 0, false, 0, (IntKind.i64.wrap (Int.tmod (x.no : Nat) 16)), x.f4, true, true, x.f2, x.f3, (IntKind.i64.wrap (Int.tmod (x.n0 : Nat) 5)), (IntKind.i64.wrap (Int.tmod (x.n1 : Nat) 3)), (IntKind.i64.wrap (Int.tmod (x.n2 : Nat) 3)), (x.v.r : Nat), (x.v.c : Nat), (x.v.b : Nat), (x.v.p : Nat), x.k0, x.k1, x.k2, x.k3⟩), .pointer (some ⟨b2, 0, none⟩), .bool true, .pointer (some ⟨b2, 1, none⟩), .bool false, .int .i64 dl, .agg (cfA ⟨0, 0, 0, dl, 0, 0⟩), .agg (poA ⟨0, 0, false, 0, (IntKind.i64.wrap (Int.tmod (x.no : Nat) 16)), x.f4, false, true, false, false, 0, 0, 0, 0, 0, 0, 0, 0, 0, 0, 0⟩), bif L 0 then .pointer (some ⟨b5, 7, none⟩) else undef, bif L 1 then .bool true else undef, bif L 2 then .bool true else undef, bif L 3 then .pointer (some ⟨b5, 6, none⟩) else undef, bif L 4 then .bool true else undef, bif L 5 then .bool true else undef, bif L 6 then .pointer (some ⟨b2, 0, none⟩) else undef, bif L 7 then .bool true else undef, bif L 8 then .bool true else undef, bif L 9 then .pointer (some ⟨b2, 1, none⟩) else undef, bif L 10 then .bool false else undef, bif L 11 then .bool false else undef, undef, undef, undef, undef, undef, undef, undef, undef, undef, undef, undef, undef, undef, undef, undef, undef, undef, undef, undef, undef, undef, undef, undef, undef, undef, undef, undef, undef, undef, undef], defers := [] }
/-- The slots, while the region runs. -/
def SwB21 (x : Lp) (dl : Int) (ad : Bool) (b1 b2 b5 b8 : Nat) (L : Nat → Bool) : Act := { tmps := #[.agg (lpA x), .agg (#[.bool true, .bool false]), .int .i64 dl, .pointer (some ⟨b1, 0, none⟩), .pointer (some ⟨b2, 0, none⟩), undef, .bool false, .pointer (some ⟨b5, 0, none⟩), .pointer (some ⟨b8, 0, none⟩), .bool true, .bool false, .bool true, .bool false, .agg (lpA x), .agg (poA ⟨0, 0, false, 0, (IntKind.i64.wrap (Int.tmod (x.no : Nat) 16)), x.f4, true, true, x.f2, x.f3, (IntKind.i64.wrap (Int.tmod (x.n0 : Nat) 5)), (IntKind.i64.wrap (Int.tmod (x.n1 : Nat) 3)), (IntKind.i64.wrap (Int.tmod (x.n2 : Nat) 3)), (x.v.r : Nat), (x.v.c : Nat), (x.v.b : Nat), (x.v.p : Nat), x.k0, x.k1, x.k2, x.k3⟩), .agg (poA ⟨0, 0, false, 0, (IntKind.i64.wrap (Int.tmod (x.no : Nat) 16)), x.f4, true, true, x.f2, x.f3, (IntKind.i64.wrap (Int.tmod (x.n0 : Nat) 5)), (IntKind.i64.wrap (Int.tmod (x.n1 : Nat) 3)), (IntKind.i64.wrap (Int.tmod (x.n2 : Nat) 3)), (x.v.r : Nat), (x.v.c : Nat), (x.v.b : Nat), (x.v.p : Nat), x.k0, x.k1, x.k2, x.k3⟩), .pointer (some ⟨b2, 0, none⟩), .bool true, .pointer (some ⟨b2, 1, none⟩), .bool false, .int .i64 dl, .agg (cfA ⟨0, 0, 0, dl, 0, 0⟩), .agg (poA ⟨0, 0, false, 0, (IntKind.i64.wrap (Int.tmod (x.no : Nat) 16)), x.f4, false, true, false, false, 0, 0, 0, 0, 0, 0, 0, 0, 0, 0, 0⟩), .pointer (some ⟨b5, 7, none⟩), .bool true, .bool true, .pointer (some ⟨b5, 6, none⟩), .bool true, .bool true, .pointer (some ⟨b2, 0, none⟩), .bool true, .bool true, .pointer (some ⟨b2, 1, none⟩), .bool false, .bool false, bif L 0 then .pointer (some ⟨b2, 0, none⟩) else undef, bif L 1 then .bool true else undef, bif L 2 then .pointer (some ⟨b2, 1, none⟩) else undef, bif L 3 then .bool false else undef, bif L 4 then .pointer (some ⟨b5, 7, none⟩) else undef, bif L 6 then .pointer (some ⟨b5, 6, none⟩) else undef, undef, undef, undef, undef, undef, undef, undef, undef, undef, undef, undef, undef, undef, undef, undef, undef, undef, undef, undef, undef, undef, undef, undef, undef], defers := [] }
/-- The slots, while the region runs. -/
def SwA22 (x : Lp) (dl : Int) (ad : Bool) (b1 b2 b5 b8 : Nat) (L : Nat → Bool) : Act := { tmps := #[.agg (lpA x), .agg (#[.bool true, .bool true]), .int .i64 dl, .pointer (some ⟨b1, 0, none⟩), .pointer (some ⟨b2, 0, none⟩), undef, .bool false, .pointer (some ⟨b5, 0, none⟩), .pointer (some ⟨b8, 0, none⟩), bif L 12 then .bool true else undef, bif L 13 then .bool true else undef, .bool true, .bool false, .agg (lpA x), .agg (poA ⟨0, 0, false, 0, (IntKind.i64.wrap (Int.tmod (x.no : Nat) 16)), x.f4, true, true, x.f2, x.f3, (IntKind.i64.wrap (Int.tmod (x.n0 : Nat) 5)), (IntKind.i64.wrap (Int.tmod (x.n1 : Nat) 3)), (IntKind.i64.wrap (Int.tmod (x.n2 : Nat) 3)), (x.v.r : Nat), (x.v.c : Nat), (x.v.b : Nat), (x.v.p : Nat), x.k0, x.k1, x.k2, x.k3⟩), .agg (poA ⟨0, 0, false, 0, (IntKind.i64.wrap (Int.tmod (x.no : Nat) 16)), x.f4, true, true, x.f2, x.f3, (IntKind.i64.wrap (Int.tmod (x.n0 : Nat) 5)), (IntKind.i64.wrap (Int.tmod (x.n1 : Nat) 3)), (IntKind.i64.wrap (Int.tmod (x.n2 : Nat) 3)), (x.v.r : Nat), (x.v.c : Nat), (x.v.b : Nat), (x.v.p : Nat), x.k0, x.k1, x.k2, x.k3⟩), .pointer (some ⟨b2, 0, none⟩), .bool true, .pointer (some ⟨b2, 1, none⟩), .bool true, .int .i64 dl, .agg (cfA ⟨0, 0, 0, dl, 0, 0⟩), .agg (poA ⟨0, 0, false, 0, (IntKind.i64.wrap (Int.tmod (x.no : Nat) 16)), x.f4, true, true, x.f2, x.f3, (IntKind.i64.wrap (Int.tmod (x.n0 : Nat) 5)), (IntKind.i64.wrap (Int.tmod (x.n1 : Nat) 3)), (IntKind.i64.wrap (Int.tmod (x.n2 : Nat) 3)), (x.v.r : Nat), (x.v.c : Nat), (x.v.b : Nat), (x.v.p : Nat), x.k0, x.k1, x.k2, x.k3⟩), bif L 0 then .pointer (some ⟨b5, 7, none⟩) else undef, bif L 1 then .bool true else undef, bif L 2 then .bool true else undef, bif L 3 then .pointer (some ⟨b5, 6, none⟩) else undef, bif L 4 then .bool true else undef, bif L 5 then .bool true else undef, bif L 6 then .pointer (some ⟨b2, 0, none⟩) else undef, bif L 7 then .bool true else undef, bif L 8 then .bool true else undef, bif L 9 then .pointer (some ⟨b2, 1, none⟩) else undef, bif L 10 then .bool true else undef, bif L 11 then .bool true else undef, undef, undef, undef, undef, undef, undef, undef, undef, undef, undef, undef, undef, undef, undef, undef, undef, undef, undef, undef, undef, undef, undef, undef, undef, undef, undef, undef, undef, undef, undef], defers := [] }
/-- The slots, while the region runs. -/
def SwB22 (x : Lp) (dl : Int) (ad : Bool) (b1 b2 b5 b8 : Nat) (L : Nat → Bool) : Act := { tmps := #[.agg (lpA x), .agg (#[.bool true, .bool true]), .int .i64 dl, .pointer (some ⟨b1, 0, none⟩), .pointer (some ⟨b2, 0, none⟩), undef, .bool false, .pointer (some ⟨b5, 0, none⟩), .pointer (some ⟨b8, 0, none⟩), .bool true, .bool true, .bool true, .bool false, .agg (lpA x), .agg (poA ⟨0, 0, false, 0, (IntKind.i64.wrap (Int.tmod (x.no : Nat) 16)), x.f4, true, true, x.f2, x.f3, (IntKind.i64.wrap (Int.tmod (x.n0 : Nat) 5)), (IntKind.i64.wrap (Int.tmod (x.n1 : Nat) 3)), (IntKind.i64.wrap (Int.tmod (x.n2 : Nat) 3)), (x.v.r : Nat), (x.v.c : Nat), (x.v.b : Nat), (x.v.p : Nat), x.k0, x.k1, x.k2, x.k3⟩), .agg (poA ⟨0, 0, false, 0, (IntKind.i64.wrap (Int.tmod (x.no : Nat) 16)), x.f4, true, true, x.f2, x.f3, (IntKind.i64.wrap (Int.tmod (x.n0 : Nat) 5)), (IntKind.i64.wrap (Int.tmod (x.n1 : Nat) 3)), (IntKind.i64.wrap (Int.tmod (x.n2 : Nat) 3)), (x.v.r : Nat), (x.v.c : Nat), (x.v.b : Nat), (x.v.p : Nat), x.k0, x.k1, x.k2, x.k3⟩), .pointer (some ⟨b2, 0, none⟩), .bool true, .pointer (some ⟨b2, 1, none⟩), .bool true, .int .i64 dl, .agg (cfA ⟨0, 0, 0, dl, 0, 0⟩), .agg (poA ⟨0, 0, false, 0, (IntKind.i64.wrap (Int.tmod (x.no : Nat) 16)), x.f4, true, true, x.f2, x.f3, (IntKind.i64.wrap (Int.tmod (x.n0 : Nat) 5)), (IntKind.i64.wrap (Int.tmod (x.n1 : Nat) 3)), (IntKind.i64.wrap (Int.tmod (x.n2 : Nat) 3)), (x.v.r : Nat), (x.v.c : Nat), (x.v.b : Nat), (x.v.p : Nat), x.k0, x.k1, x.k2, x.k3⟩), .pointer (some ⟨b5, 7, none⟩), .bool true, .bool true, .pointer (some ⟨b5, 6, none⟩), .bool true, .bool true, .pointer (some ⟨b2, 0, none⟩), .bool true, .bool true, .pointer (some ⟨b2, 1, none⟩), .bool true, .bool true, bif L 0 then .pointer (some ⟨b2, 0, none⟩) else undef, bif L 1 then .bool true else undef, bif L 2 then .pointer (some ⟨b2, 1, none⟩) else undef, bif L 3 then .bool true else undef, bif L 4 then .pointer (some ⟨b5, 7, none⟩) else undef, bif L 6 then .pointer (some ⟨b5, 6, none⟩) else undef, undef, undef, undef, undef, undef, undef, undef, undef, undef, undef, undef, undef, undef, undef, undef, undef, undef, undef, undef, undef, undef, undef, undef, undef], defers := [] }
set_option maxRecDepth 100000 in
set_option maxHeartbeats 8000000 in
theorem switches_2 (x : Lp) (ad : Bool) (hup : x.f0 = true) (had : x.f1 = true) (t0 t1 : Bool) (dl : Int) (w : World) : Calls Try.prog 7 #[.agg (lpA x), .agg #[.bool t0, .bool t1], .int .i64 dl] w fun e w' => e = .returned (.bool true) ∧ Below w.heap.size w w' := by
  have HU := Lib.hid hup
  have HA := Lib.hid had
  clear hup had
  cases t0
  case false =>
    have K := Lib.hid (Kb.nil w)
    go_enter Try.func7, Try.ntmps7
    go_upto_region 0 with fail
    refine wp_region_lit ?_
    refine kb_box K.out 55 (.tmp 0) (lpA x) rfl rfl (by rfl) ?_
    intro b1 w1 hb1 hk
    have K1 := Lib.hid (show Kb w [(b1, lpA x, 55)] w1 from hk)
    clear hk hb1
    (try simp only [Act.put, List.getElem_toArray, List.getElem_cons_succ, List.getElem_cons_zero, List.setIfInBounds_toArray, List.set_cons_zero, List.set_cons_succ])
    refine kb_box K1.out 71 (.tmp 1) (#[.bool false, .bool t1]) rfl rfl (by rfl) ?_
    intro b2 w2 hb2 hk
    have K2 := Lib.hid (show Kb w [(b1, lpA x, 55), (b2, #[.bool false, .bool t1], 71)] w2 from hk)
    clear hk hb2
    (try simp only [Act.put, List.getElem_toArray, List.getElem_cons_succ, List.getElem_cons_zero, List.setIfInBounds_toArray, List.set_cons_zero, List.set_cons_succ])
    refine wpList_val (.bool false) (by rfl) (by go_simp) ?_
    (try simp only [Act.put, List.getElem_toArray, List.getElem_cons_succ, List.getElem_cons_zero, List.setIfInBounds_toArray, List.set_cons_zero, List.set_cons_succ])
    refine wpList_nil ?_
    go_upto_region 1 with fail
    refine wp_region_lit ?_
    refine kb_call K2.out 14 #[] (.bool true) (by rfl) (by go_simp) (ispeaks_any w2) ?_
    intro w3 hk
    have K3 := Lib.hid (show Kb w [(b1, lpA x, 55), (b2, #[.bool false, .bool t1], 71)] w3 from hk)
    clear hk
    (try simp only [Act.put, List.getElem_toArray, List.getElem_cons_succ, List.getElem_cons_zero, List.setIfInBounds_toArray, List.set_cons_zero, List.set_cons_succ])
    refine wpList_val (.bool false) (by rfl) (by go_simp) ?_
    (try simp only [Act.put, List.getElem_toArray, List.getElem_cons_succ, List.getElem_cons_zero, List.setIfInBounds_toArray, List.set_cons_zero, List.set_cons_succ])
    refine wpList_nil ?_
    go_upto_region 3 with fail
    refine wp_region_lit ?_
    refine wpList_val (.agg (lpA x)) (by rfl) (kb_all K3.out 0 rfl 55 _ rfl rfl Try.underlying55 rfl (size55)) ?_
    (try simp only [Act.put, List.getElem_toArray, List.getElem_cons_succ, List.getElem_cons_zero, List.setIfInBounds_toArray, List.set_cons_zero, List.set_cons_succ])
    refine kb_call K3.out 15 #[.agg (lpA x)] (.agg (poA ⟨0, 0, false, 0, (IntKind.i64.wrap (Int.tmod (x.no : Nat) 16)), x.f4, true, true, x.f2, x.f3, (IntKind.i64.wrap (Int.tmod (x.n0 : Nat) 5)), (IntKind.i64.wrap (Int.tmod (x.n1 : Nat) 3)), (IntKind.i64.wrap (Int.tmod (x.n2 : Nat) 3)), (x.v.r : Nat), (x.v.c : Nat), (x.v.b : Nat), (x.v.p : Nat), x.k0, x.k1, x.k2, x.k3⟩)) (by rfl) (by go_simp) (made_is x ⟨0, 0, false, 0, (IntKind.i64.wrap (Int.tmod (x.no : Nat) 16)), x.f4, true, true, x.f2, x.f3, (IntKind.i64.wrap (Int.tmod (x.n0 : Nat) 5)), (IntKind.i64.wrap (Int.tmod (x.n1 : Nat) 3)), (IntKind.i64.wrap (Int.tmod (x.n2 : Nat) 3)), (x.v.r : Nat), (x.v.c : Nat), (x.v.b : Nat), (x.v.p : Nat), x.k0, x.k1, x.k2, x.k3⟩ (by unfold madeP; rw [HU.out, HA.out]) w3) ?_
    intro w4 hk
    have K4 := Lib.hid (show Kb w [(b1, lpA x, 55), (b2, #[.bool false, .bool t1], 71)] w4 from hk)
    clear hk
    (try simp only [Act.put, List.getElem_toArray, List.getElem_cons_succ, List.getElem_cons_zero, List.setIfInBounds_toArray, List.set_cons_zero, List.set_cons_succ])
    refine kb_alloc K4.out 62 (nil21) rfl z50 (by rfl) ?_
    intro b5 w5 hb5 hk
    have K5 := Lib.hid (show Kb w [(b1, lpA x, 55), (b2, #[.bool false, .bool t1], 71), (b5, nil21, 62)] w5 from hk)
    clear hk hb5
    (try simp only [Act.put, List.getElem_toArray, List.getElem_cons_succ, List.getElem_cons_zero, List.setIfInBounds_toArray, List.set_cons_zero, List.set_cons_succ])
    refine kb_row K5.out 2 rfl 62 _ _ (poA ⟨0, 0, false, 0, (IntKind.i64.wrap (Int.tmod (x.no : Nat) 16)), x.f4, true, true, x.f2, x.f3, (IntKind.i64.wrap (Int.tmod (x.n0 : Nat) 5)), (IntKind.i64.wrap (Int.tmod (x.n1 : Nat) 3)), (IntKind.i64.wrap (Int.tmod (x.n2 : Nat) 3)), (x.v.r : Nat), (x.v.c : Nat), (x.v.b : Nat), (x.v.p : Nat), x.k0, x.k1, x.k2, x.k3⟩) rfl rfl rfl rfl (size50) (by rfl) (po_all _) ?_
    intro w6 hk
    have K6 := Lib.hid (show Kb w [(b1, lpA x, 55), (b2, #[.bool false, .bool t1], 71), (b5, poA ⟨0, 0, false, 0, (IntKind.i64.wrap (Int.tmod (x.no : Nat) 16)), x.f4, true, true, x.f2, x.f3, (IntKind.i64.wrap (Int.tmod (x.n0 : Nat) 5)), (IntKind.i64.wrap (Int.tmod (x.n1 : Nat) 3)), (IntKind.i64.wrap (Int.tmod (x.n2 : Nat) 3)), (x.v.r : Nat), (x.v.c : Nat), (x.v.b : Nat), (x.v.p : Nat), x.k0, x.k1, x.k2, x.k3⟩, 62)] w6 from hk)
    clear hk
    (try simp only [Act.put, List.getElem_toArray, List.getElem_cons_succ, List.getElem_cons_zero, List.setIfInBounds_toArray, List.set_cons_zero, List.set_cons_succ])
    refine wpList_nil ?_
    go_upto_region 4 with fail
    refine wp_region_lit ?_
    refine wpList_val (.agg (poA ⟨0, 0, false, 0, (IntKind.i64.wrap (Int.tmod (x.no : Nat) 16)), x.f4, true, true, x.f2, x.f3, (IntKind.i64.wrap (Int.tmod (x.n0 : Nat) 5)), (IntKind.i64.wrap (Int.tmod (x.n1 : Nat) 3)), (IntKind.i64.wrap (Int.tmod (x.n2 : Nat) 3)), (x.v.r : Nat), (x.v.c : Nat), (x.v.b : Nat), (x.v.p : Nat), x.k0, x.k1, x.k2, x.k3⟩)) (by rfl) (kb_all K6.out 2 rfl 62 _ rfl rfl Try.underlying62 rfl (size50)) ?_
    (try simp only [Act.put, List.getElem_toArray, List.getElem_cons_succ, List.getElem_cons_zero, List.setIfInBounds_toArray, List.set_cons_zero, List.set_cons_succ])
    refine wpList_val (.pointer (some ⟨b2, 0, none⟩)) (by rfl) (by go_simp) ?_
    (try simp only [Act.put, List.getElem_toArray, List.getElem_cons_succ, List.getElem_cons_zero, List.setIfInBounds_toArray, List.set_cons_zero, List.set_cons_succ])
    refine wpList_val (.bool false) (by rfl) (by have q : w6.cell? ⟨b2, 0, none⟩ = some (.bool false) := K6.out.cell (i := 1) rfl (by rfl); go_simp) ?_
    (try simp only [Act.put, List.getElem_toArray, List.getElem_cons_succ, List.getElem_cons_zero, List.setIfInBounds_toArray, List.set_cons_zero, List.set_cons_succ])
    refine wpList_val (.pointer (some ⟨b2, 1, none⟩)) (by rfl) (by go_simp) ?_
    (try simp only [Act.put, List.getElem_toArray, List.getElem_cons_succ, List.getElem_cons_zero, List.setIfInBounds_toArray, List.set_cons_zero, List.set_cons_succ])
    refine wpList_val (.bool t1) (by rfl) (by have q : w6.cell? ⟨b2, 1, none⟩ = some (.bool t1) := K6.out.cell (i := 1) rfl (by rfl); go_simp) ?_
    (try simp only [Act.put, List.getElem_toArray, List.getElem_cons_succ, List.getElem_cons_zero, List.setIfInBounds_toArray, List.set_cons_zero, List.set_cons_succ])
    refine wpList_val (.int .i64 dl) (by rfl) (by go_simp) ?_
    (try simp only [Act.put, List.getElem_toArray, List.getElem_cons_succ, List.getElem_cons_zero, List.setIfInBounds_toArray, List.set_cons_zero, List.set_cons_succ])
    refine wpList_val (.agg (cfA ⟨0, 0, 0, dl, 0, 0⟩)) (by rfl) (run_build_of 58 [(3, .tmp 20)] rfl _ (cfA ⟨0, 0, 0, dl, 0, 0⟩) rfl (by kernel_rfl)) ?_
    (try simp only [Act.put, List.getElem_toArray, List.getElem_cons_succ, List.getElem_cons_zero, List.setIfInBounds_toArray, List.set_cons_zero, List.set_cons_succ])
    refine kb_call K6.out 19 #[.agg (poA ⟨0, 0, false, 0, (IntKind.i64.wrap (Int.tmod (x.no : Nat) 16)), x.f4, true, true, x.f2, x.f3, (IntKind.i64.wrap (Int.tmod (x.n0 : Nat) 5)), (IntKind.i64.wrap (Int.tmod (x.n1 : Nat) 3)), (IntKind.i64.wrap (Int.tmod (x.n2 : Nat) 3)), (x.v.r : Nat), (x.v.c : Nat), (x.v.b : Nat), (x.v.p : Nat), x.k0, x.k1, x.k2, x.k3⟩), .bool false, .bool t1, .agg (cfA ⟨0, 0, 0, dl, 0, 0⟩)] (.agg (poA ⟨0, 0, false, 0, (IntKind.i64.wrap (Int.tmod (x.no : Nat) 16)), x.f4, t1, false, false, false, 0, 0, 0, 0, 0, 0, 0, 0, 0, 0, 0⟩)) (by rfl) (by go_simp) (switch_is ⟨0, 0, false, 0, (IntKind.i64.wrap (Int.tmod (x.no : Nat) 16)), x.f4, true, true, x.f2, x.f3, (IntKind.i64.wrap (Int.tmod (x.n0 : Nat) 5)), (IntKind.i64.wrap (Int.tmod (x.n1 : Nat) 3)), (IntKind.i64.wrap (Int.tmod (x.n2 : Nat) 3)), (x.v.r : Nat), (x.v.c : Nat), (x.v.b : Nat), (x.v.p : Nat), x.k0, x.k1, x.k2, x.k3⟩ false t1 ⟨0, 0, 0, dl, 0, 0⟩ ⟨0, 0, false, 0, (IntKind.i64.wrap (Int.tmod (x.no : Nat) 16)), x.f4, t1, false, false, false, 0, 0, 0, 0, 0, 0, 0, 0, 0, 0, 0⟩ (by kernel_rfl) w6) ?_
    intro w7 hk
    have K7 := Lib.hid (show Kb w [(b1, lpA x, 55), (b2, #[.bool false, .bool t1], 71), (b5, poA ⟨0, 0, false, 0, (IntKind.i64.wrap (Int.tmod (x.no : Nat) 16)), x.f4, true, true, x.f2, x.f3, (IntKind.i64.wrap (Int.tmod (x.n0 : Nat) 5)), (IntKind.i64.wrap (Int.tmod (x.n1 : Nat) 3)), (IntKind.i64.wrap (Int.tmod (x.n2 : Nat) 3)), (x.v.r : Nat), (x.v.c : Nat), (x.v.b : Nat), (x.v.p : Nat), x.k0, x.k1, x.k2, x.k3⟩, 62)] w7 from hk)
    clear hk
    (try simp only [Act.put, List.getElem_toArray, List.getElem_cons_succ, List.getElem_cons_zero, List.setIfInBounds_toArray, List.set_cons_zero, List.set_cons_succ])
    refine kb_alloc K7.out 62 (nil21) rfl z50 (by rfl) ?_
    intro b8 w8 hb8 hk
    have K8 := Lib.hid (show Kb w [(b1, lpA x, 55), (b2, #[.bool false, .bool t1], 71), (b5, poA ⟨0, 0, false, 0, (IntKind.i64.wrap (Int.tmod (x.no : Nat) 16)), x.f4, true, true, x.f2, x.f3, (IntKind.i64.wrap (Int.tmod (x.n0 : Nat) 5)), (IntKind.i64.wrap (Int.tmod (x.n1 : Nat) 3)), (IntKind.i64.wrap (Int.tmod (x.n2 : Nat) 3)), (x.v.r : Nat), (x.v.c : Nat), (x.v.b : Nat), (x.v.p : Nat), x.k0, x.k1, x.k2, x.k3⟩, 62), (b8, nil21, 62)] w8 from hk)
    clear hk hb8
    (try simp only [Act.put, List.getElem_toArray, List.getElem_cons_succ, List.getElem_cons_zero, List.setIfInBounds_toArray, List.set_cons_zero, List.set_cons_succ])
    refine kb_row K8.out 3 rfl 62 _ _ (poA ⟨0, 0, false, 0, (IntKind.i64.wrap (Int.tmod (x.no : Nat) 16)), x.f4, t1, false, false, false, 0, 0, 0, 0, 0, 0, 0, 0, 0, 0, 0⟩) rfl rfl rfl rfl (size50) (by rfl) (po_all _) ?_
    intro w9 hk
    have K9 := Lib.hid (show Kb w [(b1, lpA x, 55), (b2, #[.bool false, .bool t1], 71), (b5, poA ⟨0, 0, false, 0, (IntKind.i64.wrap (Int.tmod (x.no : Nat) 16)), x.f4, true, true, x.f2, x.f3, (IntKind.i64.wrap (Int.tmod (x.n0 : Nat) 5)), (IntKind.i64.wrap (Int.tmod (x.n1 : Nat) 3)), (IntKind.i64.wrap (Int.tmod (x.n2 : Nat) 3)), (x.v.r : Nat), (x.v.c : Nat), (x.v.b : Nat), (x.v.p : Nat), x.k0, x.k1, x.k2, x.k3⟩, 62), (b8, poA ⟨0, 0, false, 0, (IntKind.i64.wrap (Int.tmod (x.no : Nat) 16)), x.f4, t1, false, false, false, 0, 0, 0, 0, 0, 0, 0, 0, 0, 0, 0⟩, 62)] w9 from hk)
    clear hk
    (try simp only [Act.put, List.getElem_toArray, List.getElem_cons_succ, List.getElem_cons_zero, List.setIfInBounds_toArray, List.set_cons_zero, List.set_cons_succ])
    refine wpList_nil ?_
    go_upto_region 5 with fail
    refine wp_region_inv (I := fun L ac w' => ac = SwA20 x dl ad t1 b1 b2 b5 b8 L ∧ Kb w [(b1, lpA x, 55), (b2, #[.bool false, .bool t1], 71), (b5, poA ⟨0, 0, false, 0, (IntKind.i64.wrap (Int.tmod (x.no : Nat) 16)), x.f4, true, true, x.f2, x.f3, (IntKind.i64.wrap (Int.tmod (x.n0 : Nat) 5)), (IntKind.i64.wrap (Int.tmod (x.n1 : Nat) 3)), (IntKind.i64.wrap (Int.tmod (x.n2 : Nat) 3)), (x.v.r : Nat), (x.v.c : Nat), (x.v.b : Nat), (x.v.p : Nat), x.k0, x.k1, x.k2, x.k3⟩, 62), (b8, poA ⟨0, 0, false, 0, (IntKind.i64.wrap (Int.tmod (x.no : Nat) 16)), x.f4, t1, false, false, false, 0, 0, 0, 0, 0, 0, 0, 0, 0, 0, 0⟩, 62)] w') (by kernel_rfl) (by kernel_rfl) ⟨by kernel_rfl, K9.out.drew⟩ ?_ ?_
    · intro i hi Lx ac w' hI hL haft
      obtain ⟨rfl, hw⟩ := hI
      match i, hi with
      | 0, _ =>
        have g7 : (SwA20 x dl ad t1 b1 b2 b5 b8 Lx).tmps[7]?.getD undef = .pointer (some ⟨b5, 0, none⟩) := by kernel_rfl
        have e7 : (SwA20 x dl ad t1 b1 b2 b5 b8 Lx).eval (.tmp 7) = .pointer (some ⟨b5, 0, none⟩) := by kernel_rfl
        exact i_val rfl (.pointer (some ⟨b5, 7, none⟩)) w' (by rfl) (by go_simp) ⟨by kernel_rfl, hw⟩
      | 1, _ =>
        have h0 := haft 0 (by decide)
        have e23 : (SwA20 x dl ad t1 b1 b2 b5 b8 Lx).eval (.tmp 23) = .pointer (some ⟨b5, 7, none⟩) := by show (bif Lx 0 then _ else _) = _; rw [h0]; rfl
        have g23 : (SwA20 x dl ad t1 b1 b2 b5 b8 Lx).tmps[23]?.getD undef = .pointer (some ⟨b5, 7, none⟩) := by show (bif Lx 0 then _ else _) = _; rw [h0]; rfl
        exact i_val rfl (.bool true) w' (by rfl) (by have q : w'.cell? ⟨b5, 7, none⟩ = some (.bool true) := Kb.cell (i := 2) hw rfl (by rfl); go_simp) ⟨by kernel_rfl, hw⟩
      | 2, _ =>
        have h1 := haft 1 (by decide)
        have e24 : (SwA20 x dl ad t1 b1 b2 b5 b8 Lx).eval (.tmp 24) = .bool true := by show (bif Lx 1 then _ else _) = _; rw [h1]; rfl
        have g24 : (SwA20 x dl ad t1 b1 b2 b5 b8 Lx).tmps[24]?.getD undef = .bool true := by show (bif Lx 1 then _ else _) = _; rw [h1]; rfl
        exact i_val rfl (.bool true) w' (by rfl) (by go_simp) ⟨by kernel_rfl, hw⟩
      | 3, _ =>
        have g7 : (SwA20 x dl ad t1 b1 b2 b5 b8 Lx).tmps[7]?.getD undef = .pointer (some ⟨b5, 0, none⟩) := by kernel_rfl
        have e7 : (SwA20 x dl ad t1 b1 b2 b5 b8 Lx).eval (.tmp 7) = .pointer (some ⟨b5, 0, none⟩) := by kernel_rfl
        have hg2 := haft 2 (by decide)
        have q25 : (SwA20 x dl ad t1 b1 b2 b5 b8 Lx).tmps[25]? = some (.bool true) := by show some (bif Lx 2 then _ else _) = _; rw [hg2]; rfl
        exact i_val rfl (.pointer (some ⟨b5, 6, none⟩)) w' (wanted_of rfl rfl q25 rfl) (by go_simp) ⟨by kernel_rfl, hw⟩
      | 4, _ =>
        have h3 := haft 3 (by decide)
        have e26 : (SwA20 x dl ad t1 b1 b2 b5 b8 Lx).eval (.tmp 26) = .pointer (some ⟨b5, 6, none⟩) := by show (bif Lx 3 then _ else _) = _; rw [h3]; rfl
        have g26 : (SwA20 x dl ad t1 b1 b2 b5 b8 Lx).tmps[26]?.getD undef = .pointer (some ⟨b5, 6, none⟩) := by show (bif Lx 3 then _ else _) = _; rw [h3]; rfl
        have hg2 := haft 2 (by decide)
        have q25 : (SwA20 x dl ad t1 b1 b2 b5 b8 Lx).tmps[25]? = some (.bool true) := by show some (bif Lx 2 then _ else _) = _; rw [hg2]; rfl
        exact i_val rfl (.bool true) w' (wanted_of rfl rfl q25 rfl) (by have q : w'.cell? ⟨b5, 6, none⟩ = some (.bool true) := Kb.cell (i := 2) hw rfl (by rfl); go_simp) ⟨by kernel_rfl, hw⟩
      | 5, _ =>
        have h2 := haft 2 (by decide)
        have e25 : (SwA20 x dl ad t1 b1 b2 b5 b8 Lx).eval (.tmp 25) = .bool true := by show (bif Lx 2 then _ else _) = _; rw [h2]; rfl
        have g25 : (SwA20 x dl ad t1 b1 b2 b5 b8 Lx).tmps[25]?.getD undef = .bool true := by show (bif Lx 2 then _ else _) = _; rw [h2]; rfl
        have h4 := haft 4 (by decide)
        have e27 : (SwA20 x dl ad t1 b1 b2 b5 b8 Lx).eval (.tmp 27) = .bool true := by show (bif Lx 4 then _ else _) = _; rw [h4]; rfl
        have g27 : (SwA20 x dl ad t1 b1 b2 b5 b8 Lx).tmps[27]?.getD undef = .bool true := by show (bif Lx 4 then _ else _) = _; rw [h4]; rfl
        exact i_val rfl (.bool true) w' (by rfl) (run_pick_yes (.tmp 25) (.tmp 27) (.const (.bool false)) _ rfl e25 e27) ⟨by kernel_rfl, hw⟩
      | 6, _ =>
        have g4 : (SwA20 x dl ad t1 b1 b2 b5 b8 Lx).tmps[4]?.getD undef = .pointer (some ⟨b2, 0, none⟩) := by kernel_rfl
        have e4 : (SwA20 x dl ad t1 b1 b2 b5 b8 Lx).eval (.tmp 4) = .pointer (some ⟨b2, 0, none⟩) := by kernel_rfl
        exact i_val rfl (.pointer (some ⟨b2, 0, none⟩)) w' (by rfl) (by go_simp) ⟨by kernel_rfl, hw⟩
      | 7, _ =>
        have h6 := haft 6 (by decide)
        have e29 : (SwA20 x dl ad t1 b1 b2 b5 b8 Lx).eval (.tmp 29) = .pointer (some ⟨b2, 0, none⟩) := by show (bif Lx 6 then _ else _) = _; rw [h6]; rfl
        have g29 : (SwA20 x dl ad t1 b1 b2 b5 b8 Lx).tmps[29]?.getD undef = .pointer (some ⟨b2, 0, none⟩) := by show (bif Lx 6 then _ else _) = _; rw [h6]; rfl
        exact i_val rfl (.bool false) w' (by rfl) (by have q : w'.cell? ⟨b2, 0, none⟩ = some (.bool false) := Kb.cell (i := 1) hw rfl (by rfl); go_simp) ⟨by kernel_rfl, hw⟩
      | 8, _ =>
        have h7 := haft 7 (by decide)
        have e30 : (SwA20 x dl ad t1 b1 b2 b5 b8 Lx).eval (.tmp 30) = .bool false := by show (bif Lx 7 then _ else _) = _; rw [h7]; rfl
        have g30 : (SwA20 x dl ad t1 b1 b2 b5 b8 Lx).tmps[30]?.getD undef = .bool false := by show (bif Lx 7 then _ else _) = _; rw [h7]; rfl
        exact i_val rfl (.bool false) w' (by rfl) (by go_simp) ⟨by kernel_rfl, hw⟩
      | 9, _ =>
        have g4 : (SwA20 x dl ad t1 b1 b2 b5 b8 Lx).tmps[4]?.getD undef = .pointer (some ⟨b2, 0, none⟩) := by kernel_rfl
        have e4 : (SwA20 x dl ad t1 b1 b2 b5 b8 Lx).eval (.tmp 4) = .pointer (some ⟨b2, 0, none⟩) := by kernel_rfl
        have hg8 := haft 8 (by decide)
        have q31 : (SwA20 x dl ad t1 b1 b2 b5 b8 Lx).tmps[31]? = some (.bool false) := by show some (bif Lx 8 then _ else _) = _; rw [hg8]; rfl
        exact i_not rfl (wanted_of rfl rfl q31 rfl) ⟨by kernel_rfl, hw⟩
      | 10, _ =>
        have h9 := haft 9 (by decide)
        have e32 : (SwA20 x dl ad t1 b1 b2 b5 b8 Lx).eval (.tmp 32) = undef := by show (bif Lx 9 then _ else _) = _; rw [h9]; rfl
        have g32 : (SwA20 x dl ad t1 b1 b2 b5 b8 Lx).tmps[32]?.getD undef = undef := by show (bif Lx 9 then _ else _) = _; rw [h9]; rfl
        have hg8 := haft 8 (by decide)
        have q31 : (SwA20 x dl ad t1 b1 b2 b5 b8 Lx).tmps[31]? = some (.bool false) := by show some (bif Lx 8 then _ else _) = _; rw [hg8]; rfl
        exact i_not rfl (wanted_of rfl rfl q31 rfl) ⟨by kernel_rfl, hw⟩
      | 11, _ =>
        have h8 := haft 8 (by decide)
        have e31 : (SwA20 x dl ad t1 b1 b2 b5 b8 Lx).eval (.tmp 31) = .bool false := by show (bif Lx 8 then _ else _) = _; rw [h8]; rfl
        have g31 : (SwA20 x dl ad t1 b1 b2 b5 b8 Lx).tmps[31]?.getD undef = .bool false := by show (bif Lx 8 then _ else _) = _; rw [h8]; rfl
        have h10 := haft 10 (by decide)
        have e33 : (SwA20 x dl ad t1 b1 b2 b5 b8 Lx).eval (.tmp 33) = undef := by show (bif Lx 10 then _ else _) = _; rw [h10]; rfl
        have g33 : (SwA20 x dl ad t1 b1 b2 b5 b8 Lx).tmps[33]?.getD undef = undef := by show (bif Lx 10 then _ else _) = _; rw [h10]; rfl
        exact i_val rfl (.bool false) w' (by rfl) (run_pick_no (.tmp 31) (.tmp 33) (.const (.bool false)) _ rfl e31 rfl) ⟨by kernel_rfl, hw⟩
      | 12, _ =>
        have h5 := haft 5 (by decide)
        have e28 : (SwA20 x dl ad t1 b1 b2 b5 b8 Lx).eval (.tmp 28) = .bool true := by show (bif Lx 5 then _ else _) = _; rw [h5]; rfl
        have g28 : (SwA20 x dl ad t1 b1 b2 b5 b8 Lx).tmps[28]?.getD undef = .bool true := by show (bif Lx 5 then _ else _) = _; rw [h5]; rfl
        exact i_val rfl (.bool true) w' (by rfl) (by go_simp) ⟨by kernel_rfl, hw⟩
      | 13, _ =>
        have h11 := haft 11 (by decide)
        have e34 : (SwA20 x dl ad t1 b1 b2 b5 b8 Lx).eval (.tmp 34) = .bool false := by show (bif Lx 11 then _ else _) = _; rw [h11]; rfl
        have g34 : (SwA20 x dl ad t1 b1 b2 b5 b8 Lx).tmps[34]?.getD undef = .bool false := by show (bif Lx 11 then _ else _) = _; rw [h11]; rfl
        exact i_val rfl (.bool false) w' (by rfl) (by go_simp) ⟨by kernel_rfl, hw⟩
      | k + 14, h =>
        exfalso
        have h2 : k + 14 < 14 := h
        omega
    intro Lx ac w10 hI hall
    obtain ⟨rfl, hw⟩ := hI
    have hfr : SwA20 x dl ad t1 b1 b2 b5 b8 Lx = { tmps := #[.agg (lpA x), .agg (#[.bool false, .bool t1]), .int .i64 dl, .pointer (some ⟨b1, 0, none⟩), .pointer (some ⟨b2, 0, none⟩), undef, .bool false, .pointer (some ⟨b5, 0, none⟩), .pointer (some ⟨b8, 0, none⟩), .bool true, .bool false, .bool true, .bool false, .agg (lpA x), .agg (poA ⟨0, 0, false, 0, (IntKind.i64.wrap (Int.tmod (x.no : Nat) 16)), x.f4, true, true, x.f2, x.f3, (IntKind.i64.wrap (Int.tmod (x.n0 : Nat) 5)), (IntKind.i64.wrap (Int.tmod (x.n1 : Nat) 3)), (IntKind.i64.wrap (Int.tmod (x.n2 : Nat) 3)), (x.v.r : Nat), (x.v.c : Nat), (x.v.b : Nat), (x.v.p : Nat), x.k0, x.k1, x.k2, x.k3⟩), .agg (poA ⟨0, 0, false, 0, (IntKind.i64.wrap (Int.tmod (x.no : Nat) 16)), x.f4, true, true, x.f2, x.f3, (IntKind.i64.wrap (Int.tmod (x.n0 : Nat) 5)), (IntKind.i64.wrap (Int.tmod (x.n1 : Nat) 3)), (IntKind.i64.wrap (Int.tmod (x.n2 : Nat) 3)), (x.v.r : Nat), (x.v.c : Nat), (x.v.b : Nat), (x.v.p : Nat), x.k0, x.k1, x.k2, x.k3⟩), .pointer (some ⟨b2, 0, none⟩), .bool false, .pointer (some ⟨b2, 1, none⟩), .bool t1, .int .i64 dl, .agg (cfA ⟨0, 0, 0, dl, 0, 0⟩), .agg (poA ⟨0, 0, false, 0, (IntKind.i64.wrap (Int.tmod (x.no : Nat) 16)), x.f4, t1, false, false, false, 0, 0, 0, 0, 0, 0, 0, 0, 0, 0, 0⟩), .pointer (some ⟨b5, 7, none⟩), .bool true, .bool true, .pointer (some ⟨b5, 6, none⟩), .bool true, .bool true, .pointer (some ⟨b2, 0, none⟩), .bool false, .bool false, undef, undef, .bool false, undef, undef, undef, undef, undef, undef, undef, undef, undef, undef, undef, undef, undef, undef, undef, undef, undef, undef, undef, undef, undef, undef, undef, undef, undef, undef, undef, undef, undef, undef], defers := [] } := by unfold SwA20; simp only [hall 0 (by decide), hall 1 (by decide), hall 2 (by decide), hall 3 (by decide), hall 4 (by decide), hall 5 (by decide), hall 6 (by decide), hall 7 (by decide), hall 8 (by decide), hall 9 (by decide), hall 10 (by decide), hall 11 (by decide), hall 12 (by decide), hall 13 (by decide), cond_true]
    rw [hfr]
    clear hfr
    have K10 := Lib.hid (show Kb w [(b1, lpA x, 55), (b2, #[.bool false, .bool t1], 71), (b5, poA ⟨0, 0, false, 0, (IntKind.i64.wrap (Int.tmod (x.no : Nat) 16)), x.f4, true, true, x.f2, x.f3, (IntKind.i64.wrap (Int.tmod (x.n0 : Nat) 5)), (IntKind.i64.wrap (Int.tmod (x.n1 : Nat) 3)), (IntKind.i64.wrap (Int.tmod (x.n2 : Nat) 3)), (x.v.r : Nat), (x.v.c : Nat), (x.v.b : Nat), (x.v.p : Nat), x.k0, x.k1, x.k2, x.k3⟩, 62), (b8, poA ⟨0, 0, false, 0, (IntKind.i64.wrap (Int.tmod (x.no : Nat) 16)), x.f4, t1, false, false, false, 0, 0, 0, 0, 0, 0, 0, 0, 0, 0, 0⟩, 62)] w10 from hw)
    clear hw hall
    go_upto_region 6 with fail
    refine wp_region_inv (I := fun L ac w' => ac = SwB20 x dl ad t1 b1 b2 b5 b8 L ∧ Kb w [(b1, lpA x, 55), (b2, #[.bool false, .bool t1], 71), (b5, poA ⟨0, 0, false, 0, (IntKind.i64.wrap (Int.tmod (x.no : Nat) 16)), x.f4, (bif L 7 then t1 else true), (bif L 5 then false else true), x.f2, x.f3, (IntKind.i64.wrap (Int.tmod (x.n0 : Nat) 5)), (IntKind.i64.wrap (Int.tmod (x.n1 : Nat) 3)), (IntKind.i64.wrap (Int.tmod (x.n2 : Nat) 3)), (x.v.r : Nat), (x.v.c : Nat), (x.v.b : Nat), (x.v.p : Nat), x.k0, x.k1, x.k2, x.k3⟩, 62), (b8, poA ⟨0, 0, false, 0, (IntKind.i64.wrap (Int.tmod (x.no : Nat) 16)), x.f4, t1, false, false, false, 0, 0, 0, 0, 0, 0, 0, 0, 0, 0, 0⟩, 62)] w') (by kernel_rfl) (by kernel_rfl) ⟨by kernel_rfl, K10.out.drew⟩ ?_ ?_
    · intro i hi Lx ac w' hI hL haft
      obtain ⟨rfl, hw⟩ := hI
      match i, hi with
      | 0, _ =>
        have g4 : (SwB20 x dl ad t1 b1 b2 b5 b8 Lx).tmps[4]?.getD undef = .pointer (some ⟨b2, 0, none⟩) := by kernel_rfl
        have e4 : (SwB20 x dl ad t1 b1 b2 b5 b8 Lx).eval (.tmp 4) = .pointer (some ⟨b2, 0, none⟩) := by kernel_rfl
        exact i_val rfl (.pointer (some ⟨b2, 0, none⟩)) w' (by rfl) (by go_simp) ⟨by kernel_rfl, hw⟩
      | 1, _ =>
        have h0 := haft 0 (by decide)
        have e35 : (SwB20 x dl ad t1 b1 b2 b5 b8 Lx).eval (.tmp 35) = .pointer (some ⟨b2, 0, none⟩) := by show (bif Lx 0 then _ else _) = _; rw [h0]; rfl
        have g35 : (SwB20 x dl ad t1 b1 b2 b5 b8 Lx).tmps[35]?.getD undef = .pointer (some ⟨b2, 0, none⟩) := by show (bif Lx 0 then _ else _) = _; rw [h0]; rfl
        exact i_val rfl (.bool false) w' (by rfl) (by have q : w'.cell? ⟨b2, 0, none⟩ = some (.bool false) := Kb.cell (i := 1) hw rfl (by rfl); go_simp) ⟨by kernel_rfl, hw⟩
      | 2, _ =>
        have g4 : (SwB20 x dl ad t1 b1 b2 b5 b8 Lx).tmps[4]?.getD undef = .pointer (some ⟨b2, 0, none⟩) := by kernel_rfl
        have e4 : (SwB20 x dl ad t1 b1 b2 b5 b8 Lx).eval (.tmp 4) = .pointer (some ⟨b2, 0, none⟩) := by kernel_rfl
        exact i_val rfl (.pointer (some ⟨b2, 1, none⟩)) w' (by rfl) (by go_simp) ⟨by kernel_rfl, hw⟩
      | 3, _ =>
        have h2 := haft 2 (by decide)
        have e37 : (SwB20 x dl ad t1 b1 b2 b5 b8 Lx).eval (.tmp 37) = .pointer (some ⟨b2, 1, none⟩) := by show (bif Lx 2 then _ else _) = _; rw [h2]; rfl
        have g37 : (SwB20 x dl ad t1 b1 b2 b5 b8 Lx).tmps[37]?.getD undef = .pointer (some ⟨b2, 1, none⟩) := by show (bif Lx 2 then _ else _) = _; rw [h2]; rfl
        exact i_val rfl (.bool t1) w' (by rfl) (by have q : w'.cell? ⟨b2, 1, none⟩ = some (.bool t1) := Kb.cell (i := 1) hw rfl (by rfl); go_simp) ⟨by kernel_rfl, hw⟩
      | 4, _ =>
        have g7 : (SwB20 x dl ad t1 b1 b2 b5 b8 Lx).tmps[7]?.getD undef = .pointer (some ⟨b5, 0, none⟩) := by kernel_rfl
        have e7 : (SwB20 x dl ad t1 b1 b2 b5 b8 Lx).eval (.tmp 7) = .pointer (some ⟨b5, 0, none⟩) := by kernel_rfl
        exact i_val rfl (.pointer (some ⟨b5, 7, none⟩)) w' (by rfl) (by go_simp) ⟨by kernel_rfl, hw⟩
      | 5, _ =>
        have h1 := haft 1 (by decide)
        have e36 : (SwB20 x dl ad t1 b1 b2 b5 b8 Lx).eval (.tmp 36) = .bool false := by show (bif Lx 1 then _ else _) = _; rw [h1]; rfl
        have g36 : (SwB20 x dl ad t1 b1 b2 b5 b8 Lx).tmps[36]?.getD undef = .bool false := by show (bif Lx 1 then _ else _) = _; rw [h1]; rfl
        have h4 := haft 4 (by decide)
        have e39 : (SwB20 x dl ad t1 b1 b2 b5 b8 Lx).eval (.tmp 39) = .pointer (some ⟨b5, 7, none⟩) := by show (bif Lx 4 then _ else _) = _; rw [h4]; rfl
        have g39 : (SwB20 x dl ad t1 b1 b2 b5 b8 Lx).tmps[39]?.getD undef = .pointer (some ⟨b5, 7, none⟩) := by show (bif Lx 4 then _ else _) = _; rw [h4]; rfl
        exact i_wp rfl (by rfl) (wp_store_cell 4 _ _ rfl ⟨b5, 7, none⟩ (.bool false) e39 e36 (kb_run_set hw (i := 2) rfl 4 7 (.bool (bif Lx 5 then false else true)) (.bool false) (by rfl) (fun W h1 h2 => by go_simp)) ⟨by kernel_rfl, cast_blk (Kb.set (i := 2) hw rfl 7 (.bool false)) (by rfl)⟩)
      | 6, _ =>
        have g7 : (SwB20 x dl ad t1 b1 b2 b5 b8 Lx).tmps[7]?.getD undef = .pointer (some ⟨b5, 0, none⟩) := by kernel_rfl
        have e7 : (SwB20 x dl ad t1 b1 b2 b5 b8 Lx).eval (.tmp 7) = .pointer (some ⟨b5, 0, none⟩) := by kernel_rfl
        exact i_val rfl (.pointer (some ⟨b5, 6, none⟩)) w' (by rfl) (by go_simp) ⟨by kernel_rfl, hw⟩
      | 7, _ =>
        have h3 := haft 3 (by decide)
        have e38 : (SwB20 x dl ad t1 b1 b2 b5 b8 Lx).eval (.tmp 38) = .bool t1 := by show (bif Lx 3 then _ else _) = _; rw [h3]; rfl
        have g38 : (SwB20 x dl ad t1 b1 b2 b5 b8 Lx).tmps[38]?.getD undef = .bool t1 := by show (bif Lx 3 then _ else _) = _; rw [h3]; rfl
        have h6 := haft 6 (by decide)
        have e40 : (SwB20 x dl ad t1 b1 b2 b5 b8 Lx).eval (.tmp 40) = .pointer (some ⟨b5, 6, none⟩) := by show (bif Lx 6 then _ else _) = _; rw [h6]; rfl
        have g40 : (SwB20 x dl ad t1 b1 b2 b5 b8 Lx).tmps[40]?.getD undef = .pointer (some ⟨b5, 6, none⟩) := by show (bif Lx 6 then _ else _) = _; rw [h6]; rfl
        exact i_wp rfl (by rfl) (wp_store_cell 4 _ _ rfl ⟨b5, 6, none⟩ (.bool t1) e40 e38 (kb_run_set hw (i := 2) rfl 4 6 (.bool (bif Lx 7 then t1 else true)) (.bool t1) (by rfl) (fun W h1 h2 => by go_simp)) ⟨by kernel_rfl, cast_blk (Kb.set (i := 2) hw rfl 6 (.bool t1)) (by rfl)⟩)
      | k + 8, h =>
        exfalso
        have h2 : k + 8 < 8 := h
        omega
    intro Lx ac w11 hI hall
    obtain ⟨rfl, hw⟩ := hI
    have hfr : SwB20 x dl ad t1 b1 b2 b5 b8 Lx = { tmps := #[.agg (lpA x), .agg (#[.bool false, .bool t1]), .int .i64 dl, .pointer (some ⟨b1, 0, none⟩), .pointer (some ⟨b2, 0, none⟩), undef, .bool false, .pointer (some ⟨b5, 0, none⟩), .pointer (some ⟨b8, 0, none⟩), .bool true, .bool false, .bool true, .bool false, .agg (lpA x), .agg (poA ⟨0, 0, false, 0, (IntKind.i64.wrap (Int.tmod (x.no : Nat) 16)), x.f4, true, true, x.f2, x.f3, (IntKind.i64.wrap (Int.tmod (x.n0 : Nat) 5)), (IntKind.i64.wrap (Int.tmod (x.n1 : Nat) 3)), (IntKind.i64.wrap (Int.tmod (x.n2 : Nat) 3)), (x.v.r : Nat), (x.v.c : Nat), (x.v.b : Nat), (x.v.p : Nat), x.k0, x.k1, x.k2, x.k3⟩), .agg (poA ⟨0, 0, false, 0, (IntKind.i64.wrap (Int.tmod (x.no : Nat) 16)), x.f4, true, true, x.f2, x.f3, (IntKind.i64.wrap (Int.tmod (x.n0 : Nat) 5)), (IntKind.i64.wrap (Int.tmod (x.n1 : Nat) 3)), (IntKind.i64.wrap (Int.tmod (x.n2 : Nat) 3)), (x.v.r : Nat), (x.v.c : Nat), (x.v.b : Nat), (x.v.p : Nat), x.k0, x.k1, x.k2, x.k3⟩), .pointer (some ⟨b2, 0, none⟩), .bool false, .pointer (some ⟨b2, 1, none⟩), .bool t1, .int .i64 dl, .agg (cfA ⟨0, 0, 0, dl, 0, 0⟩), .agg (poA ⟨0, 0, false, 0, (IntKind.i64.wrap (Int.tmod (x.no : Nat) 16)), x.f4, t1, false, false, false, 0, 0, 0, 0, 0, 0, 0, 0, 0, 0, 0⟩), .pointer (some ⟨b5, 7, none⟩), .bool true, .bool true, .pointer (some ⟨b5, 6, none⟩), .bool true, .bool true, .pointer (some ⟨b2, 0, none⟩), .bool false, .bool false, undef, undef, .bool false, .pointer (some ⟨b2, 0, none⟩), .bool false, .pointer (some ⟨b2, 1, none⟩), .bool t1, .pointer (some ⟨b5, 7, none⟩), .pointer (some ⟨b5, 6, none⟩), undef, undef, undef, undef, undef, undef, undef, undef, undef, undef, undef, undef, undef, undef, undef, undef, undef, undef, undef, undef, undef, undef, undef, undef], defers := [] } := by unfold SwB20; simp only [hall 0 (by decide), hall 1 (by decide), hall 2 (by decide), hall 3 (by decide), hall 4 (by decide), hall 6 (by decide), cond_true]
    rw [hfr]
    clear hfr
    have hL5 := hall 5 (by decide)
    have hL7 := hall 7 (by decide)
    simp only [hL5, hL7, cond_true] at hw
    have K11 := Lib.hid (show Kb w [(b1, lpA x, 55), (b2, #[.bool false, .bool t1], 71), (b5, poA ⟨0, 0, false, 0, (IntKind.i64.wrap (Int.tmod (x.no : Nat) 16)), x.f4, t1, false, x.f2, x.f3, (IntKind.i64.wrap (Int.tmod (x.n0 : Nat) 5)), (IntKind.i64.wrap (Int.tmod (x.n1 : Nat) 3)), (IntKind.i64.wrap (Int.tmod (x.n2 : Nat) 3)), (x.v.r : Nat), (x.v.c : Nat), (x.v.b : Nat), (x.v.p : Nat), x.k0, x.k1, x.k2, x.k3⟩, 62), (b8, poA ⟨0, 0, false, 0, (IntKind.i64.wrap (Int.tmod (x.no : Nat) 16)), x.f4, t1, false, false, false, 0, 0, 0, 0, 0, 0, 0, 0, 0, 0, 0⟩, 62)] w11 from hw)
    clear hw hall hL5 hL7
    go_upto_region 7 with fail
    refine wp_region_lit ?_
    refine wpList_val (.bool true) (by rfl) (by go_simp) ?_
    (try simp only [Act.put, List.getElem_toArray, List.getElem_cons_succ, List.getElem_cons_zero, List.setIfInBounds_toArray, List.set_cons_zero, List.set_cons_succ])
    refine wpList_val (.bool false) (by rfl) (by go_simp) ?_
    (try simp only [Act.put, List.getElem_toArray, List.getElem_cons_succ, List.getElem_cons_zero, List.setIfInBounds_toArray, List.set_cons_zero, List.set_cons_succ])
    refine wpList_val (.bool false) (by rfl) (by go_simp) ?_
    (try simp only [Act.put, List.getElem_toArray, List.getElem_cons_succ, List.getElem_cons_zero, List.setIfInBounds_toArray, List.set_cons_zero, List.set_cons_succ])
    refine wpList_val (.bool false) (by rfl) (by go_simp) ?_
    (try simp only [Act.put, List.getElem_toArray, List.getElem_cons_succ, List.getElem_cons_zero, List.setIfInBounds_toArray, List.set_cons_zero, List.set_cons_succ])
    refine wpList_val (.bool true) (by rfl) (by go_simp) ?_
    (try simp only [Act.put, List.getElem_toArray, List.getElem_cons_succ, List.getElem_cons_zero, List.setIfInBounds_toArray, List.set_cons_zero, List.set_cons_succ])
    refine wpList_val (.bool true) (by rfl) (run_pick_no (.tmp 43) (.const (.bool true)) (.tmp 45) _ rfl rfl rfl) ?_
    (try simp only [Act.put, List.getElem_toArray, List.getElem_cons_succ, List.getElem_cons_zero, List.setIfInBounds_toArray, List.set_cons_zero, List.set_cons_succ])
    refine wpList_nil ?_
    go_upto_region 8 with fail
    refine wp_region_lit ?_
    refine wpList_val (.agg (nil4)) (by rfl) (run_build_of 44 [] rfl [] nil4 rfl (by kernel_rfl)) ?_
    (try simp only [Act.put, List.getElem_toArray, List.getElem_cons_succ, List.getElem_cons_zero, List.setIfInBounds_toArray, List.set_cons_zero, List.set_cons_succ])
    refine wpList_val (.pointer (some ⟨b5, 8, none⟩)) (by rfl) (by go_simp) ?_
    (try simp only [Act.put, List.getElem_toArray, List.getElem_cons_succ, List.getElem_cons_zero, List.setIfInBounds_toArray, List.set_cons_zero, List.set_cons_succ])
    refine kb_set K11.out 2 rfl 4 _ _ 8 (.bool false) rfl (by rfl) rfl rfl (kb_run_set K11.out (i := 2) rfl 4 8 (.bool x.f2) (.bool false) (by rfl) (fun W h1 h2 => by go_simp)) (poA ⟨0, 0, false, 0, (IntKind.i64.wrap (Int.tmod (x.no : Nat) 16)), x.f4, t1, false, false, x.f3, (IntKind.i64.wrap (Int.tmod (x.n0 : Nat) 5)), (IntKind.i64.wrap (Int.tmod (x.n1 : Nat) 3)), (IntKind.i64.wrap (Int.tmod (x.n2 : Nat) 3)), (x.v.r : Nat), (x.v.c : Nat), (x.v.b : Nat), (x.v.p : Nat), x.k0, x.k1, x.k2, x.k3⟩) (by kernel_rfl) ?_
    intro w12 hk
    have K12 := Lib.hid (show Kb w [(b1, lpA x, 55), (b2, #[.bool false, .bool t1], 71), (b5, poA ⟨0, 0, false, 0, (IntKind.i64.wrap (Int.tmod (x.no : Nat) 16)), x.f4, t1, false, false, x.f3, (IntKind.i64.wrap (Int.tmod (x.n0 : Nat) 5)), (IntKind.i64.wrap (Int.tmod (x.n1 : Nat) 3)), (IntKind.i64.wrap (Int.tmod (x.n2 : Nat) 3)), (x.v.r : Nat), (x.v.c : Nat), (x.v.b : Nat), (x.v.p : Nat), x.k0, x.k1, x.k2, x.k3⟩, 62), (b8, poA ⟨0, 0, false, 0, (IntKind.i64.wrap (Int.tmod (x.no : Nat) 16)), x.f4, t1, false, false, false, 0, 0, 0, 0, 0, 0, 0, 0, 0, 0, 0⟩, 62)] w12 from hk)
    clear hk
    (try simp only [Act.put, List.getElem_toArray, List.getElem_cons_succ, List.getElem_cons_zero, List.setIfInBounds_toArray, List.set_cons_zero, List.set_cons_succ])
    refine wpList_val (.pointer (some ⟨b5, 9, none⟩)) (by rfl) (by go_simp) ?_
    (try simp only [Act.put, List.getElem_toArray, List.getElem_cons_succ, List.getElem_cons_zero, List.setIfInBounds_toArray, List.set_cons_zero, List.set_cons_succ])
    refine kb_set K12.out 2 rfl 4 _ _ 9 (.bool false) rfl (by rfl) rfl rfl (kb_run_set K12.out (i := 2) rfl 4 9 (.bool x.f3) (.bool false) (by rfl) (fun W h1 h2 => by go_simp)) (poA ⟨0, 0, false, 0, (IntKind.i64.wrap (Int.tmod (x.no : Nat) 16)), x.f4, t1, false, false, false, (IntKind.i64.wrap (Int.tmod (x.n0 : Nat) 5)), (IntKind.i64.wrap (Int.tmod (x.n1 : Nat) 3)), (IntKind.i64.wrap (Int.tmod (x.n2 : Nat) 3)), (x.v.r : Nat), (x.v.c : Nat), (x.v.b : Nat), (x.v.p : Nat), x.k0, x.k1, x.k2, x.k3⟩) (by kernel_rfl) ?_
    intro w13 hk
    have K13 := Lib.hid (show Kb w [(b1, lpA x, 55), (b2, #[.bool false, .bool t1], 71), (b5, poA ⟨0, 0, false, 0, (IntKind.i64.wrap (Int.tmod (x.no : Nat) 16)), x.f4, t1, false, false, false, (IntKind.i64.wrap (Int.tmod (x.n0 : Nat) 5)), (IntKind.i64.wrap (Int.tmod (x.n1 : Nat) 3)), (IntKind.i64.wrap (Int.tmod (x.n2 : Nat) 3)), (x.v.r : Nat), (x.v.c : Nat), (x.v.b : Nat), (x.v.p : Nat), x.k0, x.k1, x.k2, x.k3⟩, 62), (b8, poA ⟨0, 0, false, 0, (IntKind.i64.wrap (Int.tmod (x.no : Nat) 16)), x.f4, t1, false, false, false, 0, 0, 0, 0, 0, 0, 0, 0, 0, 0, 0⟩, 62)] w13 from hk)
    clear hk
    (try simp only [Act.put, List.getElem_toArray, List.getElem_cons_succ, List.getElem_cons_zero, List.setIfInBounds_toArray, List.set_cons_zero, List.set_cons_succ])
    refine wpList_val (.pointer (some ⟨b5, 10, none⟩)) (by rfl) (by go_simp) ?_
    (try simp only [Act.put, List.getElem_toArray, List.getElem_cons_succ, List.getElem_cons_zero, List.setIfInBounds_toArray, List.set_cons_zero, List.set_cons_succ])
    refine kb_set K13.out 2 rfl 3 _ _ 10 (.int .i64 0) rfl (by rfl) rfl rfl (kb_run_set K13.out (i := 2) rfl 3 10 (.int .i64 (IntKind.i64.wrap (Int.tmod (x.n0 : Nat) 5))) (.int .i64 0) (by rfl) (fun W h1 h2 => by go_simp)) (poA ⟨0, 0, false, 0, (IntKind.i64.wrap (Int.tmod (x.no : Nat) 16)), x.f4, t1, false, false, false, 0, (IntKind.i64.wrap (Int.tmod (x.n1 : Nat) 3)), (IntKind.i64.wrap (Int.tmod (x.n2 : Nat) 3)), (x.v.r : Nat), (x.v.c : Nat), (x.v.b : Nat), (x.v.p : Nat), x.k0, x.k1, x.k2, x.k3⟩) (by kernel_rfl) ?_
    intro w14 hk
    have K14 := Lib.hid (show Kb w [(b1, lpA x, 55), (b2, #[.bool false, .bool t1], 71), (b5, poA ⟨0, 0, false, 0, (IntKind.i64.wrap (Int.tmod (x.no : Nat) 16)), x.f4, t1, false, false, false, 0, (IntKind.i64.wrap (Int.tmod (x.n1 : Nat) 3)), (IntKind.i64.wrap (Int.tmod (x.n2 : Nat) 3)), (x.v.r : Nat), (x.v.c : Nat), (x.v.b : Nat), (x.v.p : Nat), x.k0, x.k1, x.k2, x.k3⟩, 62), (b8, poA ⟨0, 0, false, 0, (IntKind.i64.wrap (Int.tmod (x.no : Nat) 16)), x.f4, t1, false, false, false, 0, 0, 0, 0, 0, 0, 0, 0, 0, 0, 0⟩, 62)] w14 from hk)
    clear hk
    (try simp only [Act.put, List.getElem_toArray, List.getElem_cons_succ, List.getElem_cons_zero, List.setIfInBounds_toArray, List.set_cons_zero, List.set_cons_succ])
    refine wpList_val (.pointer (some ⟨b5, 11, none⟩)) (by rfl) (by go_simp) ?_
    (try simp only [Act.put, List.getElem_toArray, List.getElem_cons_succ, List.getElem_cons_zero, List.setIfInBounds_toArray, List.set_cons_zero, List.set_cons_succ])
    refine kb_set K14.out 2 rfl 3 _ _ 11 (.int .i64 0) rfl (by rfl) rfl rfl (kb_run_set K14.out (i := 2) rfl 3 11 (.int .i64 (IntKind.i64.wrap (Int.tmod (x.n1 : Nat) 3))) (.int .i64 0) (by rfl) (fun W h1 h2 => by go_simp)) (poA ⟨0, 0, false, 0, (IntKind.i64.wrap (Int.tmod (x.no : Nat) 16)), x.f4, t1, false, false, false, 0, 0, (IntKind.i64.wrap (Int.tmod (x.n2 : Nat) 3)), (x.v.r : Nat), (x.v.c : Nat), (x.v.b : Nat), (x.v.p : Nat), x.k0, x.k1, x.k2, x.k3⟩) (by kernel_rfl) ?_
    intro w15 hk
    have K15 := Lib.hid (show Kb w [(b1, lpA x, 55), (b2, #[.bool false, .bool t1], 71), (b5, poA ⟨0, 0, false, 0, (IntKind.i64.wrap (Int.tmod (x.no : Nat) 16)), x.f4, t1, false, false, false, 0, 0, (IntKind.i64.wrap (Int.tmod (x.n2 : Nat) 3)), (x.v.r : Nat), (x.v.c : Nat), (x.v.b : Nat), (x.v.p : Nat), x.k0, x.k1, x.k2, x.k3⟩, 62), (b8, poA ⟨0, 0, false, 0, (IntKind.i64.wrap (Int.tmod (x.no : Nat) 16)), x.f4, t1, false, false, false, 0, 0, 0, 0, 0, 0, 0, 0, 0, 0, 0⟩, 62)] w15 from hk)
    clear hk
    (try simp only [Act.put, List.getElem_toArray, List.getElem_cons_succ, List.getElem_cons_zero, List.setIfInBounds_toArray, List.set_cons_zero, List.set_cons_succ])
    refine wpList_val (.pointer (some ⟨b5, 12, none⟩)) (by rfl) (by go_simp) ?_
    (try simp only [Act.put, List.getElem_toArray, List.getElem_cons_succ, List.getElem_cons_zero, List.setIfInBounds_toArray, List.set_cons_zero, List.set_cons_succ])
    refine kb_set K15.out 2 rfl 3 _ _ 12 (.int .i64 0) rfl (by rfl) rfl rfl (kb_run_set K15.out (i := 2) rfl 3 12 (.int .i64 (IntKind.i64.wrap (Int.tmod (x.n2 : Nat) 3))) (.int .i64 0) (by rfl) (fun W h1 h2 => by go_simp)) (poA ⟨0, 0, false, 0, (IntKind.i64.wrap (Int.tmod (x.no : Nat) 16)), x.f4, t1, false, false, false, 0, 0, 0, (x.v.r : Nat), (x.v.c : Nat), (x.v.b : Nat), (x.v.p : Nat), x.k0, x.k1, x.k2, x.k3⟩) (by kernel_rfl) ?_
    intro w16 hk
    have K16 := Lib.hid (show Kb w [(b1, lpA x, 55), (b2, #[.bool false, .bool t1], 71), (b5, poA ⟨0, 0, false, 0, (IntKind.i64.wrap (Int.tmod (x.no : Nat) 16)), x.f4, t1, false, false, false, 0, 0, 0, (x.v.r : Nat), (x.v.c : Nat), (x.v.b : Nat), (x.v.p : Nat), x.k0, x.k1, x.k2, x.k3⟩, 62), (b8, poA ⟨0, 0, false, 0, (IntKind.i64.wrap (Int.tmod (x.no : Nat) 16)), x.f4, t1, false, false, false, 0, 0, 0, 0, 0, 0, 0, 0, 0, 0, 0⟩, 62)] w16 from hk)
    clear hk
    (try simp only [Act.put, List.getElem_toArray, List.getElem_cons_succ, List.getElem_cons_zero, List.setIfInBounds_toArray, List.set_cons_zero, List.set_cons_succ])
    refine wpList_val (.pointer (some ⟨b5, 13, none⟩)) (by rfl) (by go_simp) ?_
    (try simp only [Act.put, List.getElem_toArray, List.getElem_cons_succ, List.getElem_cons_zero, List.setIfInBounds_toArray, List.set_cons_zero, List.set_cons_succ])
    refine kb_mid K16.out 2 rfl 44 _ _ 13 (nil4) rfl rfl rfl rfl (sizeV) (Nat.le_of_ble_eq_true (by kernel_rfl)) (by kernel_rfl) (poA ⟨0, 0, false, 0, (IntKind.i64.wrap (Int.tmod (x.no : Nat) 16)), x.f4, t1, false, false, false, 0, 0, 0, 0, 0, 0, 0, x.k0, x.k1, x.k2, x.k3⟩) (by kernel_rfl) ?_
    intro w17 hk
    have K17 := Lib.hid (show Kb w [(b1, lpA x, 55), (b2, #[.bool false, .bool t1], 71), (b5, poA ⟨0, 0, false, 0, (IntKind.i64.wrap (Int.tmod (x.no : Nat) 16)), x.f4, t1, false, false, false, 0, 0, 0, 0, 0, 0, 0, x.k0, x.k1, x.k2, x.k3⟩, 62), (b8, poA ⟨0, 0, false, 0, (IntKind.i64.wrap (Int.tmod (x.no : Nat) 16)), x.f4, t1, false, false, false, 0, 0, 0, 0, 0, 0, 0, 0, 0, 0, 0⟩, 62)] w17 from hk)
    clear hk
    (try simp only [Act.put, List.getElem_toArray, List.getElem_cons_succ, List.getElem_cons_zero, List.setIfInBounds_toArray, List.set_cons_zero, List.set_cons_succ])
    refine wpList_nil ?_
    go_upto_region 9 with fail
    refine wp_region_lit ?_
    refine wpList_val (.pointer (some ⟨b5, 17, none⟩)) (by rfl) (by go_simp) ?_
    (try simp only [Act.put, List.getElem_toArray, List.getElem_cons_succ, List.getElem_cons_zero, List.setIfInBounds_toArray, List.set_cons_zero, List.set_cons_succ])
    refine kb_set K17.out 2 rfl 3 _ _ 17 (.int .i64 0) rfl (by rfl) rfl rfl (kb_run_set K17.out (i := 2) rfl 3 17 (.int .i64 x.k0) (.int .i64 0) (by rfl) (fun W h1 h2 => by go_simp)) (poA ⟨0, 0, false, 0, (IntKind.i64.wrap (Int.tmod (x.no : Nat) 16)), x.f4, t1, false, false, false, 0, 0, 0, 0, 0, 0, 0, 0, x.k1, x.k2, x.k3⟩) (by kernel_rfl) ?_
    intro w18 hk
    have K18 := Lib.hid (show Kb w [(b1, lpA x, 55), (b2, #[.bool false, .bool t1], 71), (b5, poA ⟨0, 0, false, 0, (IntKind.i64.wrap (Int.tmod (x.no : Nat) 16)), x.f4, t1, false, false, false, 0, 0, 0, 0, 0, 0, 0, 0, x.k1, x.k2, x.k3⟩, 62), (b8, poA ⟨0, 0, false, 0, (IntKind.i64.wrap (Int.tmod (x.no : Nat) 16)), x.f4, t1, false, false, false, 0, 0, 0, 0, 0, 0, 0, 0, 0, 0, 0⟩, 62)] w18 from hk)
    clear hk
    (try simp only [Act.put, List.getElem_toArray, List.getElem_cons_succ, List.getElem_cons_zero, List.setIfInBounds_toArray, List.set_cons_zero, List.set_cons_succ])
    refine wpList_val (.pointer (some ⟨b5, 18, none⟩)) (by rfl) (by go_simp) ?_
    (try simp only [Act.put, List.getElem_toArray, List.getElem_cons_succ, List.getElem_cons_zero, List.setIfInBounds_toArray, List.set_cons_zero, List.set_cons_succ])
    refine kb_set K18.out 2 rfl 3 _ _ 18 (.int .i64 0) rfl (by rfl) rfl rfl (kb_run_set K18.out (i := 2) rfl 3 18 (.int .i64 x.k1) (.int .i64 0) (by rfl) (fun W h1 h2 => by go_simp)) (poA ⟨0, 0, false, 0, (IntKind.i64.wrap (Int.tmod (x.no : Nat) 16)), x.f4, t1, false, false, false, 0, 0, 0, 0, 0, 0, 0, 0, 0, x.k2, x.k3⟩) (by kernel_rfl) ?_
    intro w19 hk
    have K19 := Lib.hid (show Kb w [(b1, lpA x, 55), (b2, #[.bool false, .bool t1], 71), (b5, poA ⟨0, 0, false, 0, (IntKind.i64.wrap (Int.tmod (x.no : Nat) 16)), x.f4, t1, false, false, false, 0, 0, 0, 0, 0, 0, 0, 0, 0, x.k2, x.k3⟩, 62), (b8, poA ⟨0, 0, false, 0, (IntKind.i64.wrap (Int.tmod (x.no : Nat) 16)), x.f4, t1, false, false, false, 0, 0, 0, 0, 0, 0, 0, 0, 0, 0, 0⟩, 62)] w19 from hk)
    clear hk
    (try simp only [Act.put, List.getElem_toArray, List.getElem_cons_succ, List.getElem_cons_zero, List.setIfInBounds_toArray, List.set_cons_zero, List.set_cons_succ])
    refine wpList_val (.pointer (some ⟨b5, 19, none⟩)) (by rfl) (by go_simp) ?_
    (try simp only [Act.put, List.getElem_toArray, List.getElem_cons_succ, List.getElem_cons_zero, List.setIfInBounds_toArray, List.set_cons_zero, List.set_cons_succ])
    refine kb_set K19.out 2 rfl 3 _ _ 19 (.int .i64 0) rfl (by rfl) rfl rfl (kb_run_set K19.out (i := 2) rfl 3 19 (.int .i64 x.k2) (.int .i64 0) (by rfl) (fun W h1 h2 => by go_simp)) (poA ⟨0, 0, false, 0, (IntKind.i64.wrap (Int.tmod (x.no : Nat) 16)), x.f4, t1, false, false, false, 0, 0, 0, 0, 0, 0, 0, 0, 0, 0, x.k3⟩) (by kernel_rfl) ?_
    intro w20 hk
    have K20 := Lib.hid (show Kb w [(b1, lpA x, 55), (b2, #[.bool false, .bool t1], 71), (b5, poA ⟨0, 0, false, 0, (IntKind.i64.wrap (Int.tmod (x.no : Nat) 16)), x.f4, t1, false, false, false, 0, 0, 0, 0, 0, 0, 0, 0, 0, 0, x.k3⟩, 62), (b8, poA ⟨0, 0, false, 0, (IntKind.i64.wrap (Int.tmod (x.no : Nat) 16)), x.f4, t1, false, false, false, 0, 0, 0, 0, 0, 0, 0, 0, 0, 0, 0⟩, 62)] w20 from hk)
    clear hk
    (try simp only [Act.put, List.getElem_toArray, List.getElem_cons_succ, List.getElem_cons_zero, List.setIfInBounds_toArray, List.set_cons_zero, List.set_cons_succ])
    refine wpList_val (.pointer (some ⟨b5, 20, none⟩)) (by rfl) (by go_simp) ?_
    (try simp only [Act.put, List.getElem_toArray, List.getElem_cons_succ, List.getElem_cons_zero, List.setIfInBounds_toArray, List.set_cons_zero, List.set_cons_succ])
    refine kb_set K20.out 2 rfl 3 _ _ 20 (.int .i64 0) rfl (by rfl) rfl rfl (kb_run_set K20.out (i := 2) rfl 3 20 (.int .i64 x.k3) (.int .i64 0) (by rfl) (fun W h1 h2 => by go_simp)) (poA ⟨0, 0, false, 0, (IntKind.i64.wrap (Int.tmod (x.no : Nat) 16)), x.f4, t1, false, false, false, 0, 0, 0, 0, 0, 0, 0, 0, 0, 0, 0⟩) (by kernel_rfl) ?_
    intro w21 hk
    have K21 := Lib.hid (show Kb w [(b1, lpA x, 55), (b2, #[.bool false, .bool t1], 71), (b5, poA ⟨0, 0, false, 0, (IntKind.i64.wrap (Int.tmod (x.no : Nat) 16)), x.f4, t1, false, false, false, 0, 0, 0, 0, 0, 0, 0, 0, 0, 0, 0⟩, 62), (b8, poA ⟨0, 0, false, 0, (IntKind.i64.wrap (Int.tmod (x.no : Nat) 16)), x.f4, t1, false, false, false, 0, 0, 0, 0, 0, 0, 0, 0, 0, 0, 0⟩, 62)] w21 from hk)
    clear hk
    (try simp only [Act.put, List.getElem_toArray, List.getElem_cons_succ, List.getElem_cons_zero, List.setIfInBounds_toArray, List.set_cons_zero, List.set_cons_succ])
    refine wpList_nil ?_
    go_upto_region 10 with fail
    refine wp_region_lit ?_
    refine wpList_val (.bool false) (by rfl) (by go_simp) ?_
    (try simp only [Act.put, List.getElem_toArray, List.getElem_cons_succ, List.getElem_cons_zero, List.setIfInBounds_toArray, List.set_cons_zero, List.set_cons_succ])
    refine wpList_nil ?_
    go_upto_region 12 with fail
    refine wp_region_lit ?_
    refine wpList_val (.agg (poA ⟨0, 0, false, 0, (IntKind.i64.wrap (Int.tmod (x.no : Nat) 16)), x.f4, t1, false, false, false, 0, 0, 0, 0, 0, 0, 0, 0, 0, 0, 0⟩)) (by rfl) (kb_all K21.out 3 rfl 62 _ rfl rfl Try.underlying62 rfl (size50)) ?_
    (try simp only [Act.put, List.getElem_toArray, List.getElem_cons_succ, List.getElem_cons_zero, List.setIfInBounds_toArray, List.set_cons_zero, List.set_cons_succ])
    refine wpList_val (.agg (poA ⟨0, 0, false, 0, (IntKind.i64.wrap (Int.tmod (x.no : Nat) 16)), x.f4, t1, false, false, false, 0, 0, 0, 0, 0, 0, 0, 0, 0, 0, 0⟩)) (by rfl) (kb_all K21.out 2 rfl 62 _ rfl rfl Try.underlying62 rfl (size50)) ?_
    (try simp only [Act.put, List.getElem_toArray, List.getElem_cons_succ, List.getElem_cons_zero, List.setIfInBounds_toArray, List.set_cons_zero, List.set_cons_succ])
    refine wpList_val (.bool true) (by rfl) (by have q := eq_po ⟨0, 0, false, 0, (IntKind.i64.wrap (Int.tmod (x.no : Nat) 16)), x.f4, t1, false, false, false, 0, 0, 0, 0, 0, 0, 0, 0, 0, 0, 0⟩; go_simp) ?_
    (try simp only [Act.put, List.getElem_toArray, List.getElem_cons_succ, List.getElem_cons_zero, List.setIfInBounds_toArray, List.set_cons_zero, List.set_cons_succ])
    refine wpList_val (.bool true) (by rfl) (by go_simp) ?_
    (try simp only [Act.put, List.getElem_toArray, List.getElem_cons_succ, List.getElem_cons_zero, List.setIfInBounds_toArray, List.set_cons_zero, List.set_cons_succ])
    refine wpList_nil ?_
    go_wp2_with fail
    go_ret
    exact ⟨ret_bool (rfl), K21.out.below⟩
  case true =>
    cases t1
    case false =>
      have K := Lib.hid (Kb.nil w)
      go_enter Try.func7, Try.ntmps7
      go_upto_region 0 with fail
      refine wp_region_lit ?_
      refine kb_box K.out 55 (.tmp 0) (lpA x) rfl rfl (by rfl) ?_
      intro b1 w1 hb1 hk
      have K1 := Lib.hid (show Kb w [(b1, lpA x, 55)] w1 from hk)
      clear hk hb1
      (try simp only [Act.put, List.getElem_toArray, List.getElem_cons_succ, List.getElem_cons_zero, List.setIfInBounds_toArray, List.set_cons_zero, List.set_cons_succ])
      refine kb_box K1.out 71 (.tmp 1) (#[.bool true, .bool false]) rfl rfl (by rfl) ?_
      intro b2 w2 hb2 hk
      have K2 := Lib.hid (show Kb w [(b1, lpA x, 55), (b2, #[.bool true, .bool false], 71)] w2 from hk)
      clear hk hb2
      (try simp only [Act.put, List.getElem_toArray, List.getElem_cons_succ, List.getElem_cons_zero, List.setIfInBounds_toArray, List.set_cons_zero, List.set_cons_succ])
      refine wpList_val (.bool false) (by rfl) (by go_simp) ?_
      (try simp only [Act.put, List.getElem_toArray, List.getElem_cons_succ, List.getElem_cons_zero, List.setIfInBounds_toArray, List.set_cons_zero, List.set_cons_succ])
      refine wpList_nil ?_
      go_upto_region 1 with fail
      refine wp_region_lit ?_
      refine kb_call K2.out 14 #[] (.bool true) (by rfl) (by go_simp) (ispeaks_any w2) ?_
      intro w3 hk
      have K3 := Lib.hid (show Kb w [(b1, lpA x, 55), (b2, #[.bool true, .bool false], 71)] w3 from hk)
      clear hk
      (try simp only [Act.put, List.getElem_toArray, List.getElem_cons_succ, List.getElem_cons_zero, List.setIfInBounds_toArray, List.set_cons_zero, List.set_cons_succ])
      refine wpList_val (.bool false) (by rfl) (by go_simp) ?_
      (try simp only [Act.put, List.getElem_toArray, List.getElem_cons_succ, List.getElem_cons_zero, List.setIfInBounds_toArray, List.set_cons_zero, List.set_cons_succ])
      refine wpList_nil ?_
      go_upto_region 3 with fail
      refine wp_region_lit ?_
      refine wpList_val (.agg (lpA x)) (by rfl) (kb_all K3.out 0 rfl 55 _ rfl rfl Try.underlying55 rfl (size55)) ?_
      (try simp only [Act.put, List.getElem_toArray, List.getElem_cons_succ, List.getElem_cons_zero, List.setIfInBounds_toArray, List.set_cons_zero, List.set_cons_succ])
      refine kb_call K3.out 15 #[.agg (lpA x)] (.agg (poA ⟨0, 0, false, 0, (IntKind.i64.wrap (Int.tmod (x.no : Nat) 16)), x.f4, true, true, x.f2, x.f3, (IntKind.i64.wrap (Int.tmod (x.n0 : Nat) 5)), (IntKind.i64.wrap (Int.tmod (x.n1 : Nat) 3)), (IntKind.i64.wrap (Int.tmod (x.n2 : Nat) 3)), (x.v.r : Nat), (x.v.c : Nat), (x.v.b : Nat), (x.v.p : Nat), x.k0, x.k1, x.k2, x.k3⟩)) (by rfl) (by go_simp) (made_is x ⟨0, 0, false, 0, (IntKind.i64.wrap (Int.tmod (x.no : Nat) 16)), x.f4, true, true, x.f2, x.f3, (IntKind.i64.wrap (Int.tmod (x.n0 : Nat) 5)), (IntKind.i64.wrap (Int.tmod (x.n1 : Nat) 3)), (IntKind.i64.wrap (Int.tmod (x.n2 : Nat) 3)), (x.v.r : Nat), (x.v.c : Nat), (x.v.b : Nat), (x.v.p : Nat), x.k0, x.k1, x.k2, x.k3⟩ (by unfold madeP; rw [HU.out, HA.out]) w3) ?_
      intro w4 hk
      have K4 := Lib.hid (show Kb w [(b1, lpA x, 55), (b2, #[.bool true, .bool false], 71)] w4 from hk)
      clear hk
      (try simp only [Act.put, List.getElem_toArray, List.getElem_cons_succ, List.getElem_cons_zero, List.setIfInBounds_toArray, List.set_cons_zero, List.set_cons_succ])
      refine kb_alloc K4.out 62 (nil21) rfl z50 (by rfl) ?_
      intro b5 w5 hb5 hk
      have K5 := Lib.hid (show Kb w [(b1, lpA x, 55), (b2, #[.bool true, .bool false], 71), (b5, nil21, 62)] w5 from hk)
      clear hk hb5
      (try simp only [Act.put, List.getElem_toArray, List.getElem_cons_succ, List.getElem_cons_zero, List.setIfInBounds_toArray, List.set_cons_zero, List.set_cons_succ])
      refine kb_row K5.out 2 rfl 62 _ _ (poA ⟨0, 0, false, 0, (IntKind.i64.wrap (Int.tmod (x.no : Nat) 16)), x.f4, true, true, x.f2, x.f3, (IntKind.i64.wrap (Int.tmod (x.n0 : Nat) 5)), (IntKind.i64.wrap (Int.tmod (x.n1 : Nat) 3)), (IntKind.i64.wrap (Int.tmod (x.n2 : Nat) 3)), (x.v.r : Nat), (x.v.c : Nat), (x.v.b : Nat), (x.v.p : Nat), x.k0, x.k1, x.k2, x.k3⟩) rfl rfl rfl rfl (size50) (by rfl) (po_all _) ?_
      intro w6 hk
      have K6 := Lib.hid (show Kb w [(b1, lpA x, 55), (b2, #[.bool true, .bool false], 71), (b5, poA ⟨0, 0, false, 0, (IntKind.i64.wrap (Int.tmod (x.no : Nat) 16)), x.f4, true, true, x.f2, x.f3, (IntKind.i64.wrap (Int.tmod (x.n0 : Nat) 5)), (IntKind.i64.wrap (Int.tmod (x.n1 : Nat) 3)), (IntKind.i64.wrap (Int.tmod (x.n2 : Nat) 3)), (x.v.r : Nat), (x.v.c : Nat), (x.v.b : Nat), (x.v.p : Nat), x.k0, x.k1, x.k2, x.k3⟩, 62)] w6 from hk)
      clear hk
      (try simp only [Act.put, List.getElem_toArray, List.getElem_cons_succ, List.getElem_cons_zero, List.setIfInBounds_toArray, List.set_cons_zero, List.set_cons_succ])
      refine wpList_nil ?_
      go_upto_region 4 with fail
      refine wp_region_lit ?_
      refine wpList_val (.agg (poA ⟨0, 0, false, 0, (IntKind.i64.wrap (Int.tmod (x.no : Nat) 16)), x.f4, true, true, x.f2, x.f3, (IntKind.i64.wrap (Int.tmod (x.n0 : Nat) 5)), (IntKind.i64.wrap (Int.tmod (x.n1 : Nat) 3)), (IntKind.i64.wrap (Int.tmod (x.n2 : Nat) 3)), (x.v.r : Nat), (x.v.c : Nat), (x.v.b : Nat), (x.v.p : Nat), x.k0, x.k1, x.k2, x.k3⟩)) (by rfl) (kb_all K6.out 2 rfl 62 _ rfl rfl Try.underlying62 rfl (size50)) ?_
      (try simp only [Act.put, List.getElem_toArray, List.getElem_cons_succ, List.getElem_cons_zero, List.setIfInBounds_toArray, List.set_cons_zero, List.set_cons_succ])
      refine wpList_val (.pointer (some ⟨b2, 0, none⟩)) (by rfl) (by go_simp) ?_
      (try simp only [Act.put, List.getElem_toArray, List.getElem_cons_succ, List.getElem_cons_zero, List.setIfInBounds_toArray, List.set_cons_zero, List.set_cons_succ])
      refine wpList_val (.bool true) (by rfl) (by have q : w6.cell? ⟨b2, 0, none⟩ = some (.bool true) := K6.out.cell (i := 1) rfl (by rfl); go_simp) ?_
      (try simp only [Act.put, List.getElem_toArray, List.getElem_cons_succ, List.getElem_cons_zero, List.setIfInBounds_toArray, List.set_cons_zero, List.set_cons_succ])
      refine wpList_val (.pointer (some ⟨b2, 1, none⟩)) (by rfl) (by go_simp) ?_
      (try simp only [Act.put, List.getElem_toArray, List.getElem_cons_succ, List.getElem_cons_zero, List.setIfInBounds_toArray, List.set_cons_zero, List.set_cons_succ])
      refine wpList_val (.bool false) (by rfl) (by have q : w6.cell? ⟨b2, 1, none⟩ = some (.bool false) := K6.out.cell (i := 1) rfl (by rfl); go_simp) ?_
      (try simp only [Act.put, List.getElem_toArray, List.getElem_cons_succ, List.getElem_cons_zero, List.setIfInBounds_toArray, List.set_cons_zero, List.set_cons_succ])
      refine wpList_val (.int .i64 dl) (by rfl) (by go_simp) ?_
      (try simp only [Act.put, List.getElem_toArray, List.getElem_cons_succ, List.getElem_cons_zero, List.setIfInBounds_toArray, List.set_cons_zero, List.set_cons_succ])
      refine wpList_val (.agg (cfA ⟨0, 0, 0, dl, 0, 0⟩)) (by rfl) (run_build_of 58 [(3, .tmp 20)] rfl _ (cfA ⟨0, 0, 0, dl, 0, 0⟩) rfl (by kernel_rfl)) ?_
      (try simp only [Act.put, List.getElem_toArray, List.getElem_cons_succ, List.getElem_cons_zero, List.setIfInBounds_toArray, List.set_cons_zero, List.set_cons_succ])
      refine kb_call K6.out 19 #[.agg (poA ⟨0, 0, false, 0, (IntKind.i64.wrap (Int.tmod (x.no : Nat) 16)), x.f4, true, true, x.f2, x.f3, (IntKind.i64.wrap (Int.tmod (x.n0 : Nat) 5)), (IntKind.i64.wrap (Int.tmod (x.n1 : Nat) 3)), (IntKind.i64.wrap (Int.tmod (x.n2 : Nat) 3)), (x.v.r : Nat), (x.v.c : Nat), (x.v.b : Nat), (x.v.p : Nat), x.k0, x.k1, x.k2, x.k3⟩), .bool true, .bool false, .agg (cfA ⟨0, 0, 0, dl, 0, 0⟩)] (.agg (poA ⟨0, 0, false, 0, (IntKind.i64.wrap (Int.tmod (x.no : Nat) 16)), x.f4, false, true, false, false, 0, 0, 0, 0, 0, 0, 0, 0, 0, 0, 0⟩)) (by rfl) (by go_simp) (switch_is ⟨0, 0, false, 0, (IntKind.i64.wrap (Int.tmod (x.no : Nat) 16)), x.f4, true, true, x.f2, x.f3, (IntKind.i64.wrap (Int.tmod (x.n0 : Nat) 5)), (IntKind.i64.wrap (Int.tmod (x.n1 : Nat) 3)), (IntKind.i64.wrap (Int.tmod (x.n2 : Nat) 3)), (x.v.r : Nat), (x.v.c : Nat), (x.v.b : Nat), (x.v.p : Nat), x.k0, x.k1, x.k2, x.k3⟩ true false ⟨0, 0, 0, dl, 0, 0⟩ ⟨0, 0, false, 0, (IntKind.i64.wrap (Int.tmod (x.no : Nat) 16)), x.f4, false, true, false, false, 0, 0, 0, 0, 0, 0, 0, 0, 0, 0, 0⟩ (by kernel_rfl) w6) ?_
      intro w7 hk
      have K7 := Lib.hid (show Kb w [(b1, lpA x, 55), (b2, #[.bool true, .bool false], 71), (b5, poA ⟨0, 0, false, 0, (IntKind.i64.wrap (Int.tmod (x.no : Nat) 16)), x.f4, true, true, x.f2, x.f3, (IntKind.i64.wrap (Int.tmod (x.n0 : Nat) 5)), (IntKind.i64.wrap (Int.tmod (x.n1 : Nat) 3)), (IntKind.i64.wrap (Int.tmod (x.n2 : Nat) 3)), (x.v.r : Nat), (x.v.c : Nat), (x.v.b : Nat), (x.v.p : Nat), x.k0, x.k1, x.k2, x.k3⟩, 62)] w7 from hk)
      clear hk
      (try simp only [Act.put, List.getElem_toArray, List.getElem_cons_succ, List.getElem_cons_zero, List.setIfInBounds_toArray, List.set_cons_zero, List.set_cons_succ])
      refine kb_alloc K7.out 62 (nil21) rfl z50 (by rfl) ?_
      intro b8 w8 hb8 hk
      have K8 := Lib.hid (show Kb w [(b1, lpA x, 55), (b2, #[.bool true, .bool false], 71), (b5, poA ⟨0, 0, false, 0, (IntKind.i64.wrap (Int.tmod (x.no : Nat) 16)), x.f4, true, true, x.f2, x.f3, (IntKind.i64.wrap (Int.tmod (x.n0 : Nat) 5)), (IntKind.i64.wrap (Int.tmod (x.n1 : Nat) 3)), (IntKind.i64.wrap (Int.tmod (x.n2 : Nat) 3)), (x.v.r : Nat), (x.v.c : Nat), (x.v.b : Nat), (x.v.p : Nat), x.k0, x.k1, x.k2, x.k3⟩, 62), (b8, nil21, 62)] w8 from hk)
      clear hk hb8
      (try simp only [Act.put, List.getElem_toArray, List.getElem_cons_succ, List.getElem_cons_zero, List.setIfInBounds_toArray, List.set_cons_zero, List.set_cons_succ])
      refine kb_row K8.out 3 rfl 62 _ _ (poA ⟨0, 0, false, 0, (IntKind.i64.wrap (Int.tmod (x.no : Nat) 16)), x.f4, false, true, false, false, 0, 0, 0, 0, 0, 0, 0, 0, 0, 0, 0⟩) rfl rfl rfl rfl (size50) (by rfl) (po_all _) ?_
      intro w9 hk
      have K9 := Lib.hid (show Kb w [(b1, lpA x, 55), (b2, #[.bool true, .bool false], 71), (b5, poA ⟨0, 0, false, 0, (IntKind.i64.wrap (Int.tmod (x.no : Nat) 16)), x.f4, true, true, x.f2, x.f3, (IntKind.i64.wrap (Int.tmod (x.n0 : Nat) 5)), (IntKind.i64.wrap (Int.tmod (x.n1 : Nat) 3)), (IntKind.i64.wrap (Int.tmod (x.n2 : Nat) 3)), (x.v.r : Nat), (x.v.c : Nat), (x.v.b : Nat), (x.v.p : Nat), x.k0, x.k1, x.k2, x.k3⟩, 62), (b8, poA ⟨0, 0, false, 0, (IntKind.i64.wrap (Int.tmod (x.no : Nat) 16)), x.f4, false, true, false, false, 0, 0, 0, 0, 0, 0, 0, 0, 0, 0, 0⟩, 62)] w9 from hk)
      clear hk
      (try simp only [Act.put, List.getElem_toArray, List.getElem_cons_succ, List.getElem_cons_zero, List.setIfInBounds_toArray, List.set_cons_zero, List.set_cons_succ])
      refine wpList_nil ?_
      go_upto_region 5 with fail
      refine wp_region_inv (I := fun L ac w' => ac = SwA21 x dl ad b1 b2 b5 b8 L ∧ Kb w [(b1, lpA x, 55), (b2, #[.bool true, .bool false], 71), (b5, poA ⟨0, 0, false, 0, (IntKind.i64.wrap (Int.tmod (x.no : Nat) 16)), x.f4, true, true, x.f2, x.f3, (IntKind.i64.wrap (Int.tmod (x.n0 : Nat) 5)), (IntKind.i64.wrap (Int.tmod (x.n1 : Nat) 3)), (IntKind.i64.wrap (Int.tmod (x.n2 : Nat) 3)), (x.v.r : Nat), (x.v.c : Nat), (x.v.b : Nat), (x.v.p : Nat), x.k0, x.k1, x.k2, x.k3⟩, 62), (b8, poA ⟨0, 0, false, 0, (IntKind.i64.wrap (Int.tmod (x.no : Nat) 16)), x.f4, false, true, false, false, 0, 0, 0, 0, 0, 0, 0, 0, 0, 0, 0⟩, 62)] w') (by kernel_rfl) (by kernel_rfl) ⟨by kernel_rfl, K9.out.drew⟩ ?_ ?_
      · intro i hi Lx ac w' hI hL haft
        obtain ⟨rfl, hw⟩ := hI
        match i, hi with
        | 0, _ =>
          have g7 : (SwA21 x dl ad b1 b2 b5 b8 Lx).tmps[7]?.getD undef = .pointer (some ⟨b5, 0, none⟩) := by kernel_rfl
          have e7 : (SwA21 x dl ad b1 b2 b5 b8 Lx).eval (.tmp 7) = .pointer (some ⟨b5, 0, none⟩) := by kernel_rfl
          exact i_val rfl (.pointer (some ⟨b5, 7, none⟩)) w' (by rfl) (by go_simp) ⟨by kernel_rfl, hw⟩
        | 1, _ =>
          have h0 := haft 0 (by decide)
          have e23 : (SwA21 x dl ad b1 b2 b5 b8 Lx).eval (.tmp 23) = .pointer (some ⟨b5, 7, none⟩) := by show (bif Lx 0 then _ else _) = _; rw [h0]; rfl
          have g23 : (SwA21 x dl ad b1 b2 b5 b8 Lx).tmps[23]?.getD undef = .pointer (some ⟨b5, 7, none⟩) := by show (bif Lx 0 then _ else _) = _; rw [h0]; rfl
          exact i_val rfl (.bool true) w' (by rfl) (by have q : w'.cell? ⟨b5, 7, none⟩ = some (.bool true) := Kb.cell (i := 2) hw rfl (by rfl); go_simp) ⟨by kernel_rfl, hw⟩
        | 2, _ =>
          have h1 := haft 1 (by decide)
          have e24 : (SwA21 x dl ad b1 b2 b5 b8 Lx).eval (.tmp 24) = .bool true := by show (bif Lx 1 then _ else _) = _; rw [h1]; rfl
          have g24 : (SwA21 x dl ad b1 b2 b5 b8 Lx).tmps[24]?.getD undef = .bool true := by show (bif Lx 1 then _ else _) = _; rw [h1]; rfl
          exact i_val rfl (.bool true) w' (by rfl) (by go_simp) ⟨by kernel_rfl, hw⟩
        | 3, _ =>
          have g7 : (SwA21 x dl ad b1 b2 b5 b8 Lx).tmps[7]?.getD undef = .pointer (some ⟨b5, 0, none⟩) := by kernel_rfl
          have e7 : (SwA21 x dl ad b1 b2 b5 b8 Lx).eval (.tmp 7) = .pointer (some ⟨b5, 0, none⟩) := by kernel_rfl
          have hg2 := haft 2 (by decide)
          have q25 : (SwA21 x dl ad b1 b2 b5 b8 Lx).tmps[25]? = some (.bool true) := by show some (bif Lx 2 then _ else _) = _; rw [hg2]; rfl
          exact i_val rfl (.pointer (some ⟨b5, 6, none⟩)) w' (wanted_of rfl rfl q25 rfl) (by go_simp) ⟨by kernel_rfl, hw⟩
        | 4, _ =>
          have h3 := haft 3 (by decide)
          have e26 : (SwA21 x dl ad b1 b2 b5 b8 Lx).eval (.tmp 26) = .pointer (some ⟨b5, 6, none⟩) := by show (bif Lx 3 then _ else _) = _; rw [h3]; rfl
          have g26 : (SwA21 x dl ad b1 b2 b5 b8 Lx).tmps[26]?.getD undef = .pointer (some ⟨b5, 6, none⟩) := by show (bif Lx 3 then _ else _) = _; rw [h3]; rfl
          have hg2 := haft 2 (by decide)
          have q25 : (SwA21 x dl ad b1 b2 b5 b8 Lx).tmps[25]? = some (.bool true) := by show some (bif Lx 2 then _ else _) = _; rw [hg2]; rfl
          exact i_val rfl (.bool true) w' (wanted_of rfl rfl q25 rfl) (by have q : w'.cell? ⟨b5, 6, none⟩ = some (.bool true) := Kb.cell (i := 2) hw rfl (by rfl); go_simp) ⟨by kernel_rfl, hw⟩
        | 5, _ =>
          have h2 := haft 2 (by decide)
          have e25 : (SwA21 x dl ad b1 b2 b5 b8 Lx).eval (.tmp 25) = .bool true := by show (bif Lx 2 then _ else _) = _; rw [h2]; rfl
          have g25 : (SwA21 x dl ad b1 b2 b5 b8 Lx).tmps[25]?.getD undef = .bool true := by show (bif Lx 2 then _ else _) = _; rw [h2]; rfl
          have h4 := haft 4 (by decide)
          have e27 : (SwA21 x dl ad b1 b2 b5 b8 Lx).eval (.tmp 27) = .bool true := by show (bif Lx 4 then _ else _) = _; rw [h4]; rfl
          have g27 : (SwA21 x dl ad b1 b2 b5 b8 Lx).tmps[27]?.getD undef = .bool true := by show (bif Lx 4 then _ else _) = _; rw [h4]; rfl
          exact i_val rfl (.bool true) w' (by rfl) (run_pick_yes (.tmp 25) (.tmp 27) (.const (.bool false)) _ rfl e25 e27) ⟨by kernel_rfl, hw⟩
        | 6, _ =>
          have g4 : (SwA21 x dl ad b1 b2 b5 b8 Lx).tmps[4]?.getD undef = .pointer (some ⟨b2, 0, none⟩) := by kernel_rfl
          have e4 : (SwA21 x dl ad b1 b2 b5 b8 Lx).eval (.tmp 4) = .pointer (some ⟨b2, 0, none⟩) := by kernel_rfl
          exact i_val rfl (.pointer (some ⟨b2, 0, none⟩)) w' (by rfl) (by go_simp) ⟨by kernel_rfl, hw⟩
        | 7, _ =>
          have h6 := haft 6 (by decide)
          have e29 : (SwA21 x dl ad b1 b2 b5 b8 Lx).eval (.tmp 29) = .pointer (some ⟨b2, 0, none⟩) := by show (bif Lx 6 then _ else _) = _; rw [h6]; rfl
          have g29 : (SwA21 x dl ad b1 b2 b5 b8 Lx).tmps[29]?.getD undef = .pointer (some ⟨b2, 0, none⟩) := by show (bif Lx 6 then _ else _) = _; rw [h6]; rfl
          exact i_val rfl (.bool true) w' (by rfl) (by have q : w'.cell? ⟨b2, 0, none⟩ = some (.bool true) := Kb.cell (i := 1) hw rfl (by rfl); go_simp) ⟨by kernel_rfl, hw⟩
        | 8, _ =>
          have h7 := haft 7 (by decide)
          have e30 : (SwA21 x dl ad b1 b2 b5 b8 Lx).eval (.tmp 30) = .bool true := by show (bif Lx 7 then _ else _) = _; rw [h7]; rfl
          have g30 : (SwA21 x dl ad b1 b2 b5 b8 Lx).tmps[30]?.getD undef = .bool true := by show (bif Lx 7 then _ else _) = _; rw [h7]; rfl
          exact i_val rfl (.bool true) w' (by rfl) (by go_simp) ⟨by kernel_rfl, hw⟩
        | 9, _ =>
          have g4 : (SwA21 x dl ad b1 b2 b5 b8 Lx).tmps[4]?.getD undef = .pointer (some ⟨b2, 0, none⟩) := by kernel_rfl
          have e4 : (SwA21 x dl ad b1 b2 b5 b8 Lx).eval (.tmp 4) = .pointer (some ⟨b2, 0, none⟩) := by kernel_rfl
          have hg8 := haft 8 (by decide)
          have q31 : (SwA21 x dl ad b1 b2 b5 b8 Lx).tmps[31]? = some (.bool true) := by show some (bif Lx 8 then _ else _) = _; rw [hg8]; rfl
          exact i_val rfl (.pointer (some ⟨b2, 1, none⟩)) w' (wanted_of rfl rfl q31 rfl) (by go_simp) ⟨by kernel_rfl, hw⟩
        | 10, _ =>
          have h9 := haft 9 (by decide)
          have e32 : (SwA21 x dl ad b1 b2 b5 b8 Lx).eval (.tmp 32) = .pointer (some ⟨b2, 1, none⟩) := by show (bif Lx 9 then _ else _) = _; rw [h9]; rfl
          have g32 : (SwA21 x dl ad b1 b2 b5 b8 Lx).tmps[32]?.getD undef = .pointer (some ⟨b2, 1, none⟩) := by show (bif Lx 9 then _ else _) = _; rw [h9]; rfl
          have hg8 := haft 8 (by decide)
          have q31 : (SwA21 x dl ad b1 b2 b5 b8 Lx).tmps[31]? = some (.bool true) := by show some (bif Lx 8 then _ else _) = _; rw [hg8]; rfl
          exact i_val rfl (.bool false) w' (wanted_of rfl rfl q31 rfl) (by have q : w'.cell? ⟨b2, 1, none⟩ = some (.bool false) := Kb.cell (i := 1) hw rfl (by rfl); go_simp) ⟨by kernel_rfl, hw⟩
        | 11, _ =>
          have h8 := haft 8 (by decide)
          have e31 : (SwA21 x dl ad b1 b2 b5 b8 Lx).eval (.tmp 31) = .bool true := by show (bif Lx 8 then _ else _) = _; rw [h8]; rfl
          have g31 : (SwA21 x dl ad b1 b2 b5 b8 Lx).tmps[31]?.getD undef = .bool true := by show (bif Lx 8 then _ else _) = _; rw [h8]; rfl
          have h10 := haft 10 (by decide)
          have e33 : (SwA21 x dl ad b1 b2 b5 b8 Lx).eval (.tmp 33) = .bool false := by show (bif Lx 10 then _ else _) = _; rw [h10]; rfl
          have g33 : (SwA21 x dl ad b1 b2 b5 b8 Lx).tmps[33]?.getD undef = .bool false := by show (bif Lx 10 then _ else _) = _; rw [h10]; rfl
          exact i_val rfl (.bool false) w' (by rfl) (run_pick_yes (.tmp 31) (.tmp 33) (.const (.bool false)) _ rfl e31 e33) ⟨by kernel_rfl, hw⟩
        | 12, _ =>
          have h5 := haft 5 (by decide)
          have e28 : (SwA21 x dl ad b1 b2 b5 b8 Lx).eval (.tmp 28) = .bool true := by show (bif Lx 5 then _ else _) = _; rw [h5]; rfl
          have g28 : (SwA21 x dl ad b1 b2 b5 b8 Lx).tmps[28]?.getD undef = .bool true := by show (bif Lx 5 then _ else _) = _; rw [h5]; rfl
          exact i_val rfl (.bool true) w' (by rfl) (by go_simp) ⟨by kernel_rfl, hw⟩
        | 13, _ =>
          have h11 := haft 11 (by decide)
          have e34 : (SwA21 x dl ad b1 b2 b5 b8 Lx).eval (.tmp 34) = .bool false := by show (bif Lx 11 then _ else _) = _; rw [h11]; rfl
          have g34 : (SwA21 x dl ad b1 b2 b5 b8 Lx).tmps[34]?.getD undef = .bool false := by show (bif Lx 11 then _ else _) = _; rw [h11]; rfl
          exact i_val rfl (.bool false) w' (by rfl) (by go_simp) ⟨by kernel_rfl, hw⟩
        | k + 14, h =>
          exfalso
          have h2 : k + 14 < 14 := h
          omega
      intro Lx ac w10 hI hall
      obtain ⟨rfl, hw⟩ := hI
      have hfr : SwA21 x dl ad b1 b2 b5 b8 Lx = { tmps := #[.agg (lpA x), .agg (#[.bool true, .bool false]), .int .i64 dl, .pointer (some ⟨b1, 0, none⟩), .pointer (some ⟨b2, 0, none⟩), undef, .bool false, .pointer (some ⟨b5, 0, none⟩), .pointer (some ⟨b8, 0, none⟩), .bool true, .bool false, .bool true, .bool false, .agg (lpA x), .agg (poA ⟨0, 0, false, 0, (IntKind.i64.wrap (Int.tmod (x.no : Nat) 16)), x.f4, true, true, x.f2, x.f3, (IntKind.i64.wrap (Int.tmod (x.n0 : Nat) 5)), (IntKind.i64.wrap (Int.tmod (x.n1 : Nat) 3)), (IntKind.i64.wrap (Int.tmod (x.n2 : Nat) 3)), (x.v.r : Nat), (x.v.c : Nat), (x.v.b : Nat), (x.v.p : Nat), x.k0, x.k1, x.k2, x.k3⟩), .agg (poA ⟨0, 0, false, 0, (IntKind.i64.wrap (Int.tmod (x.no : Nat) 16)), x.f4, true, true, x.f2, x.f3, (IntKind.i64.wrap (Int.tmod (x.n0 : Nat) 5)), (IntKind.i64.wrap (Int.tmod (x.n1 : Nat) 3)), (IntKind.i64.wrap (Int.tmod (x.n2 : Nat) 3)), (x.v.r : Nat), (x.v.c : Nat), (x.v.b : Nat), (x.v.p : Nat), x.k0, x.k1, x.k2, x.k3⟩), .pointer (some ⟨b2, 0, none⟩), .bool true, .pointer (some ⟨b2, 1, none⟩), .bool false, .int .i64 dl, .agg (cfA ⟨0, 0, 0, dl, 0, 0⟩), .agg (poA ⟨0, 0, false, 0, (IntKind.i64.wrap (Int.tmod (x.no : Nat) 16)), x.f4, false, true, false, false, 0, 0, 0, 0, 0, 0, 0, 0, 0, 0, 0⟩), .pointer (some ⟨b5, 7, none⟩), .bool true, .bool true, .pointer (some ⟨b5, 6, none⟩), .bool true, .bool true, .pointer (some ⟨b2, 0, none⟩), .bool true, .bool true, .pointer (some ⟨b2, 1, none⟩), .bool false, .bool false, undef, undef, undef, undef, undef, undef, undef, undef, undef, undef, undef, undef, undef, undef, undef, undef, undef, undef, undef, undef, undef, undef, undef, undef, undef, undef, undef, undef, undef, undef], defers := [] } := by unfold SwA21; simp only [hall 0 (by decide), hall 1 (by decide), hall 2 (by decide), hall 3 (by decide), hall 4 (by decide), hall 5 (by decide), hall 6 (by decide), hall 7 (by decide), hall 8 (by decide), hall 9 (by decide), hall 10 (by decide), hall 11 (by decide), hall 12 (by decide), hall 13 (by decide), cond_true]
      rw [hfr]
      clear hfr
      have K10 := Lib.hid (show Kb w [(b1, lpA x, 55), (b2, #[.bool true, .bool false], 71), (b5, poA ⟨0, 0, false, 0, (IntKind.i64.wrap (Int.tmod (x.no : Nat) 16)), x.f4, true, true, x.f2, x.f3, (IntKind.i64.wrap (Int.tmod (x.n0 : Nat) 5)), (IntKind.i64.wrap (Int.tmod (x.n1 : Nat) 3)), (IntKind.i64.wrap (Int.tmod (x.n2 : Nat) 3)), (x.v.r : Nat), (x.v.c : Nat), (x.v.b : Nat), (x.v.p : Nat), x.k0, x.k1, x.k2, x.k3⟩, 62), (b8, poA ⟨0, 0, false, 0, (IntKind.i64.wrap (Int.tmod (x.no : Nat) 16)), x.f4, false, true, false, false, 0, 0, 0, 0, 0, 0, 0, 0, 0, 0, 0⟩, 62)] w10 from hw)
      clear hw hall
      go_upto_region 6 with fail
      refine wp_region_inv (I := fun L ac w' => ac = SwB21 x dl ad b1 b2 b5 b8 L ∧ Kb w [(b1, lpA x, 55), (b2, #[.bool true, .bool false], 71), (b5, poA ⟨0, 0, false, 0, (IntKind.i64.wrap (Int.tmod (x.no : Nat) 16)), x.f4, (bif L 7 then false else true), (bif L 5 then true else true), x.f2, x.f3, (IntKind.i64.wrap (Int.tmod (x.n0 : Nat) 5)), (IntKind.i64.wrap (Int.tmod (x.n1 : Nat) 3)), (IntKind.i64.wrap (Int.tmod (x.n2 : Nat) 3)), (x.v.r : Nat), (x.v.c : Nat), (x.v.b : Nat), (x.v.p : Nat), x.k0, x.k1, x.k2, x.k3⟩, 62), (b8, poA ⟨0, 0, false, 0, (IntKind.i64.wrap (Int.tmod (x.no : Nat) 16)), x.f4, false, true, false, false, 0, 0, 0, 0, 0, 0, 0, 0, 0, 0, 0⟩, 62)] w') (by kernel_rfl) (by kernel_rfl) ⟨by kernel_rfl, K10.out.drew⟩ ?_ ?_
      · intro i hi Lx ac w' hI hL haft
        obtain ⟨rfl, hw⟩ := hI
        match i, hi with
        | 0, _ =>
          have g4 : (SwB21 x dl ad b1 b2 b5 b8 Lx).tmps[4]?.getD undef = .pointer (some ⟨b2, 0, none⟩) := by kernel_rfl
          have e4 : (SwB21 x dl ad b1 b2 b5 b8 Lx).eval (.tmp 4) = .pointer (some ⟨b2, 0, none⟩) := by kernel_rfl
          exact i_val rfl (.pointer (some ⟨b2, 0, none⟩)) w' (by rfl) (by go_simp) ⟨by kernel_rfl, hw⟩
        | 1, _ =>
          have h0 := haft 0 (by decide)
          have e35 : (SwB21 x dl ad b1 b2 b5 b8 Lx).eval (.tmp 35) = .pointer (some ⟨b2, 0, none⟩) := by show (bif Lx 0 then _ else _) = _; rw [h0]; rfl
          have g35 : (SwB21 x dl ad b1 b2 b5 b8 Lx).tmps[35]?.getD undef = .pointer (some ⟨b2, 0, none⟩) := by show (bif Lx 0 then _ else _) = _; rw [h0]; rfl
          exact i_val rfl (.bool true) w' (by rfl) (by have q : w'.cell? ⟨b2, 0, none⟩ = some (.bool true) := Kb.cell (i := 1) hw rfl (by rfl); go_simp) ⟨by kernel_rfl, hw⟩
        | 2, _ =>
          have g4 : (SwB21 x dl ad b1 b2 b5 b8 Lx).tmps[4]?.getD undef = .pointer (some ⟨b2, 0, none⟩) := by kernel_rfl
          have e4 : (SwB21 x dl ad b1 b2 b5 b8 Lx).eval (.tmp 4) = .pointer (some ⟨b2, 0, none⟩) := by kernel_rfl
          exact i_val rfl (.pointer (some ⟨b2, 1, none⟩)) w' (by rfl) (by go_simp) ⟨by kernel_rfl, hw⟩
        | 3, _ =>
          have h2 := haft 2 (by decide)
          have e37 : (SwB21 x dl ad b1 b2 b5 b8 Lx).eval (.tmp 37) = .pointer (some ⟨b2, 1, none⟩) := by show (bif Lx 2 then _ else _) = _; rw [h2]; rfl
          have g37 : (SwB21 x dl ad b1 b2 b5 b8 Lx).tmps[37]?.getD undef = .pointer (some ⟨b2, 1, none⟩) := by show (bif Lx 2 then _ else _) = _; rw [h2]; rfl
          exact i_val rfl (.bool false) w' (by rfl) (by have q : w'.cell? ⟨b2, 1, none⟩ = some (.bool false) := Kb.cell (i := 1) hw rfl (by rfl); go_simp) ⟨by kernel_rfl, hw⟩
        | 4, _ =>
          have g7 : (SwB21 x dl ad b1 b2 b5 b8 Lx).tmps[7]?.getD undef = .pointer (some ⟨b5, 0, none⟩) := by kernel_rfl
          have e7 : (SwB21 x dl ad b1 b2 b5 b8 Lx).eval (.tmp 7) = .pointer (some ⟨b5, 0, none⟩) := by kernel_rfl
          exact i_val rfl (.pointer (some ⟨b5, 7, none⟩)) w' (by rfl) (by go_simp) ⟨by kernel_rfl, hw⟩
        | 5, _ =>
          have h1 := haft 1 (by decide)
          have e36 : (SwB21 x dl ad b1 b2 b5 b8 Lx).eval (.tmp 36) = .bool true := by show (bif Lx 1 then _ else _) = _; rw [h1]; rfl
          have g36 : (SwB21 x dl ad b1 b2 b5 b8 Lx).tmps[36]?.getD undef = .bool true := by show (bif Lx 1 then _ else _) = _; rw [h1]; rfl
          have h4 := haft 4 (by decide)
          have e39 : (SwB21 x dl ad b1 b2 b5 b8 Lx).eval (.tmp 39) = .pointer (some ⟨b5, 7, none⟩) := by show (bif Lx 4 then _ else _) = _; rw [h4]; rfl
          have g39 : (SwB21 x dl ad b1 b2 b5 b8 Lx).tmps[39]?.getD undef = .pointer (some ⟨b5, 7, none⟩) := by show (bif Lx 4 then _ else _) = _; rw [h4]; rfl
          exact i_wp rfl (by rfl) (wp_store_cell 4 _ _ rfl ⟨b5, 7, none⟩ (.bool true) e39 e36 (kb_run_set hw (i := 2) rfl 4 7 (.bool (bif Lx 5 then true else true)) (.bool true) (by rfl) (fun W h1 h2 => by go_simp)) ⟨by kernel_rfl, cast_blk (Kb.set (i := 2) hw rfl 7 (.bool true)) (by rfl)⟩)
        | 6, _ =>
          have g7 : (SwB21 x dl ad b1 b2 b5 b8 Lx).tmps[7]?.getD undef = .pointer (some ⟨b5, 0, none⟩) := by kernel_rfl
          have e7 : (SwB21 x dl ad b1 b2 b5 b8 Lx).eval (.tmp 7) = .pointer (some ⟨b5, 0, none⟩) := by kernel_rfl
          exact i_val rfl (.pointer (some ⟨b5, 6, none⟩)) w' (by rfl) (by go_simp) ⟨by kernel_rfl, hw⟩
        | 7, _ =>
          have h3 := haft 3 (by decide)
          have e38 : (SwB21 x dl ad b1 b2 b5 b8 Lx).eval (.tmp 38) = .bool false := by show (bif Lx 3 then _ else _) = _; rw [h3]; rfl
          have g38 : (SwB21 x dl ad b1 b2 b5 b8 Lx).tmps[38]?.getD undef = .bool false := by show (bif Lx 3 then _ else _) = _; rw [h3]; rfl
          have h6 := haft 6 (by decide)
          have e40 : (SwB21 x dl ad b1 b2 b5 b8 Lx).eval (.tmp 40) = .pointer (some ⟨b5, 6, none⟩) := by show (bif Lx 6 then _ else _) = _; rw [h6]; rfl
          have g40 : (SwB21 x dl ad b1 b2 b5 b8 Lx).tmps[40]?.getD undef = .pointer (some ⟨b5, 6, none⟩) := by show (bif Lx 6 then _ else _) = _; rw [h6]; rfl
          exact i_wp rfl (by rfl) (wp_store_cell 4 _ _ rfl ⟨b5, 6, none⟩ (.bool false) e40 e38 (kb_run_set hw (i := 2) rfl 4 6 (.bool (bif Lx 7 then false else true)) (.bool false) (by rfl) (fun W h1 h2 => by go_simp)) ⟨by kernel_rfl, cast_blk (Kb.set (i := 2) hw rfl 6 (.bool false)) (by rfl)⟩)
        | k + 8, h =>
          exfalso
          have h2 : k + 8 < 8 := h
          omega
      intro Lx ac w11 hI hall
      obtain ⟨rfl, hw⟩ := hI
      have hfr : SwB21 x dl ad b1 b2 b5 b8 Lx = { tmps := #[.agg (lpA x), .agg (#[.bool true, .bool false]), .int .i64 dl, .pointer (some ⟨b1, 0, none⟩), .pointer (some ⟨b2, 0, none⟩), undef, .bool false, .pointer (some ⟨b5, 0, none⟩), .pointer (some ⟨b8, 0, none⟩), .bool true, .bool false, .bool true, .bool false, .agg (lpA x), .agg (poA ⟨0, 0, false, 0, (IntKind.i64.wrap (Int.tmod (x.no : Nat) 16)), x.f4, true, true, x.f2, x.f3, (IntKind.i64.wrap (Int.tmod (x.n0 : Nat) 5)), (IntKind.i64.wrap (Int.tmod (x.n1 : Nat) 3)), (IntKind.i64.wrap (Int.tmod (x.n2 : Nat) 3)), (x.v.r : Nat), (x.v.c : Nat), (x.v.b : Nat), (x.v.p : Nat), x.k0, x.k1, x.k2, x.k3⟩), .agg (poA ⟨0, 0, false, 0, (IntKind.i64.wrap (Int.tmod (x.no : Nat) 16)), x.f4, true, true, x.f2, x.f3, (IntKind.i64.wrap (Int.tmod (x.n0 : Nat) 5)), (IntKind.i64.wrap (Int.tmod (x.n1 : Nat) 3)), (IntKind.i64.wrap (Int.tmod (x.n2 : Nat) 3)), (x.v.r : Nat), (x.v.c : Nat), (x.v.b : Nat), (x.v.p : Nat), x.k0, x.k1, x.k2, x.k3⟩), .pointer (some ⟨b2, 0, none⟩), .bool true, .pointer (some ⟨b2, 1, none⟩), .bool false, .int .i64 dl, .agg (cfA ⟨0, 0, 0, dl, 0, 0⟩), .agg (poA ⟨0, 0, false, 0, (IntKind.i64.wrap (Int.tmod (x.no : Nat) 16)), x.f4, false, true, false, false, 0, 0, 0, 0, 0, 0, 0, 0, 0, 0, 0⟩), .pointer (some ⟨b5, 7, none⟩), .bool true, .bool true, .pointer (some ⟨b5, 6, none⟩), .bool true, .bool true, .pointer (some ⟨b2, 0, none⟩), .bool true, .bool true, .pointer (some ⟨b2, 1, none⟩), .bool false, .bool false, .pointer (some ⟨b2, 0, none⟩), .bool true, .pointer (some ⟨b2, 1, none⟩), .bool false, .pointer (some ⟨b5, 7, none⟩), .pointer (some ⟨b5, 6, none⟩), undef, undef, undef, undef, undef, undef, undef, undef, undef, undef, undef, undef, undef, undef, undef, undef, undef, undef, undef, undef, undef, undef, undef, undef], defers := [] } := by unfold SwB21; simp only [hall 0 (by decide), hall 1 (by decide), hall 2 (by decide), hall 3 (by decide), hall 4 (by decide), hall 6 (by decide), cond_true]
      rw [hfr]
      clear hfr
      have hL5 := hall 5 (by decide)
      have hL7 := hall 7 (by decide)
      simp only [hL5, hL7, cond_true] at hw
      have K11 := Lib.hid (show Kb w [(b1, lpA x, 55), (b2, #[.bool true, .bool false], 71), (b5, poA ⟨0, 0, false, 0, (IntKind.i64.wrap (Int.tmod (x.no : Nat) 16)), x.f4, false, true, x.f2, x.f3, (IntKind.i64.wrap (Int.tmod (x.n0 : Nat) 5)), (IntKind.i64.wrap (Int.tmod (x.n1 : Nat) 3)), (IntKind.i64.wrap (Int.tmod (x.n2 : Nat) 3)), (x.v.r : Nat), (x.v.c : Nat), (x.v.b : Nat), (x.v.p : Nat), x.k0, x.k1, x.k2, x.k3⟩, 62), (b8, poA ⟨0, 0, false, 0, (IntKind.i64.wrap (Int.tmod (x.no : Nat) 16)), x.f4, false, true, false, false, 0, 0, 0, 0, 0, 0, 0, 0, 0, 0, 0⟩, 62)] w11 from hw)
      clear hw hall hL5 hL7
      go_upto_region 7 with fail
      refine wp_region_lit ?_
      refine wpList_val (.bool true) (by rfl) (by go_simp) ?_
      (try simp only [Act.put, List.getElem_toArray, List.getElem_cons_succ, List.getElem_cons_zero, List.setIfInBounds_toArray, List.set_cons_zero, List.set_cons_succ])
      refine wpList_val (.bool false) (by rfl) (by go_simp) ?_
      (try simp only [Act.put, List.getElem_toArray, List.getElem_cons_succ, List.getElem_cons_zero, List.setIfInBounds_toArray, List.set_cons_zero, List.set_cons_succ])
      refine wpList_val (.bool false) (by rfl) (by go_simp) ?_
      (try simp only [Act.put, List.getElem_toArray, List.getElem_cons_succ, List.getElem_cons_zero, List.setIfInBounds_toArray, List.set_cons_zero, List.set_cons_succ])
      refine wpList_val (.bool false) (by rfl) (by go_simp) ?_
      (try simp only [Act.put, List.getElem_toArray, List.getElem_cons_succ, List.getElem_cons_zero, List.setIfInBounds_toArray, List.set_cons_zero, List.set_cons_succ])
      refine wpList_val (.bool true) (by rfl) (by go_simp) ?_
      (try simp only [Act.put, List.getElem_toArray, List.getElem_cons_succ, List.getElem_cons_zero, List.setIfInBounds_toArray, List.set_cons_zero, List.set_cons_succ])
      refine wpList_val (.bool true) (by rfl) (run_pick_no (.tmp 43) (.const (.bool true)) (.tmp 45) _ rfl rfl rfl) ?_
      (try simp only [Act.put, List.getElem_toArray, List.getElem_cons_succ, List.getElem_cons_zero, List.setIfInBounds_toArray, List.set_cons_zero, List.set_cons_succ])
      refine wpList_nil ?_
      go_upto_region 8 with fail
      refine wp_region_lit ?_
      refine wpList_val (.agg (nil4)) (by rfl) (run_build_of 44 [] rfl [] nil4 rfl (by kernel_rfl)) ?_
      (try simp only [Act.put, List.getElem_toArray, List.getElem_cons_succ, List.getElem_cons_zero, List.setIfInBounds_toArray, List.set_cons_zero, List.set_cons_succ])
      refine wpList_val (.pointer (some ⟨b5, 8, none⟩)) (by rfl) (by go_simp) ?_
      (try simp only [Act.put, List.getElem_toArray, List.getElem_cons_succ, List.getElem_cons_zero, List.setIfInBounds_toArray, List.set_cons_zero, List.set_cons_succ])
      refine kb_set K11.out 2 rfl 4 _ _ 8 (.bool false) rfl (by rfl) rfl rfl (kb_run_set K11.out (i := 2) rfl 4 8 (.bool x.f2) (.bool false) (by rfl) (fun W h1 h2 => by go_simp)) (poA ⟨0, 0, false, 0, (IntKind.i64.wrap (Int.tmod (x.no : Nat) 16)), x.f4, false, true, false, x.f3, (IntKind.i64.wrap (Int.tmod (x.n0 : Nat) 5)), (IntKind.i64.wrap (Int.tmod (x.n1 : Nat) 3)), (IntKind.i64.wrap (Int.tmod (x.n2 : Nat) 3)), (x.v.r : Nat), (x.v.c : Nat), (x.v.b : Nat), (x.v.p : Nat), x.k0, x.k1, x.k2, x.k3⟩) (by kernel_rfl) ?_
      intro w12 hk
      have K12 := Lib.hid (show Kb w [(b1, lpA x, 55), (b2, #[.bool true, .bool false], 71), (b5, poA ⟨0, 0, false, 0, (IntKind.i64.wrap (Int.tmod (x.no : Nat) 16)), x.f4, false, true, false, x.f3, (IntKind.i64.wrap (Int.tmod (x.n0 : Nat) 5)), (IntKind.i64.wrap (Int.tmod (x.n1 : Nat) 3)), (IntKind.i64.wrap (Int.tmod (x.n2 : Nat) 3)), (x.v.r : Nat), (x.v.c : Nat), (x.v.b : Nat), (x.v.p : Nat), x.k0, x.k1, x.k2, x.k3⟩, 62), (b8, poA ⟨0, 0, false, 0, (IntKind.i64.wrap (Int.tmod (x.no : Nat) 16)), x.f4, false, true, false, false, 0, 0, 0, 0, 0, 0, 0, 0, 0, 0, 0⟩, 62)] w12 from hk)
      clear hk
      (try simp only [Act.put, List.getElem_toArray, List.getElem_cons_succ, List.getElem_cons_zero, List.setIfInBounds_toArray, List.set_cons_zero, List.set_cons_succ])
      refine wpList_val (.pointer (some ⟨b5, 9, none⟩)) (by rfl) (by go_simp) ?_
      (try simp only [Act.put, List.getElem_toArray, List.getElem_cons_succ, List.getElem_cons_zero, List.setIfInBounds_toArray, List.set_cons_zero, List.set_cons_succ])
      refine kb_set K12.out 2 rfl 4 _ _ 9 (.bool false) rfl (by rfl) rfl rfl (kb_run_set K12.out (i := 2) rfl 4 9 (.bool x.f3) (.bool false) (by rfl) (fun W h1 h2 => by go_simp)) (poA ⟨0, 0, false, 0, (IntKind.i64.wrap (Int.tmod (x.no : Nat) 16)), x.f4, false, true, false, false, (IntKind.i64.wrap (Int.tmod (x.n0 : Nat) 5)), (IntKind.i64.wrap (Int.tmod (x.n1 : Nat) 3)), (IntKind.i64.wrap (Int.tmod (x.n2 : Nat) 3)), (x.v.r : Nat), (x.v.c : Nat), (x.v.b : Nat), (x.v.p : Nat), x.k0, x.k1, x.k2, x.k3⟩) (by kernel_rfl) ?_
      intro w13 hk
      have K13 := Lib.hid (show Kb w [(b1, lpA x, 55), (b2, #[.bool true, .bool false], 71), (b5, poA ⟨0, 0, false, 0, (IntKind.i64.wrap (Int.tmod (x.no : Nat) 16)), x.f4, false, true, false, false, (IntKind.i64.wrap (Int.tmod (x.n0 : Nat) 5)), (IntKind.i64.wrap (Int.tmod (x.n1 : Nat) 3)), (IntKind.i64.wrap (Int.tmod (x.n2 : Nat) 3)), (x.v.r : Nat), (x.v.c : Nat), (x.v.b : Nat), (x.v.p : Nat), x.k0, x.k1, x.k2, x.k3⟩, 62), (b8, poA ⟨0, 0, false, 0, (IntKind.i64.wrap (Int.tmod (x.no : Nat) 16)), x.f4, false, true, false, false, 0, 0, 0, 0, 0, 0, 0, 0, 0, 0, 0⟩, 62)] w13 from hk)
      clear hk
      (try simp only [Act.put, List.getElem_toArray, List.getElem_cons_succ, List.getElem_cons_zero, List.setIfInBounds_toArray, List.set_cons_zero, List.set_cons_succ])
      refine wpList_val (.pointer (some ⟨b5, 10, none⟩)) (by rfl) (by go_simp) ?_
      (try simp only [Act.put, List.getElem_toArray, List.getElem_cons_succ, List.getElem_cons_zero, List.setIfInBounds_toArray, List.set_cons_zero, List.set_cons_succ])
      refine kb_set K13.out 2 rfl 3 _ _ 10 (.int .i64 0) rfl (by rfl) rfl rfl (kb_run_set K13.out (i := 2) rfl 3 10 (.int .i64 (IntKind.i64.wrap (Int.tmod (x.n0 : Nat) 5))) (.int .i64 0) (by rfl) (fun W h1 h2 => by go_simp)) (poA ⟨0, 0, false, 0, (IntKind.i64.wrap (Int.tmod (x.no : Nat) 16)), x.f4, false, true, false, false, 0, (IntKind.i64.wrap (Int.tmod (x.n1 : Nat) 3)), (IntKind.i64.wrap (Int.tmod (x.n2 : Nat) 3)), (x.v.r : Nat), (x.v.c : Nat), (x.v.b : Nat), (x.v.p : Nat), x.k0, x.k1, x.k2, x.k3⟩) (by kernel_rfl) ?_
      intro w14 hk
      have K14 := Lib.hid (show Kb w [(b1, lpA x, 55), (b2, #[.bool true, .bool false], 71), (b5, poA ⟨0, 0, false, 0, (IntKind.i64.wrap (Int.tmod (x.no : Nat) 16)), x.f4, false, true, false, false, 0, (IntKind.i64.wrap (Int.tmod (x.n1 : Nat) 3)), (IntKind.i64.wrap (Int.tmod (x.n2 : Nat) 3)), (x.v.r : Nat), (x.v.c : Nat), (x.v.b : Nat), (x.v.p : Nat), x.k0, x.k1, x.k2, x.k3⟩, 62), (b8, poA ⟨0, 0, false, 0, (IntKind.i64.wrap (Int.tmod (x.no : Nat) 16)), x.f4, false, true, false, false, 0, 0, 0, 0, 0, 0, 0, 0, 0, 0, 0⟩, 62)] w14 from hk)
      clear hk
      (try simp only [Act.put, List.getElem_toArray, List.getElem_cons_succ, List.getElem_cons_zero, List.setIfInBounds_toArray, List.set_cons_zero, List.set_cons_succ])
      refine wpList_val (.pointer (some ⟨b5, 11, none⟩)) (by rfl) (by go_simp) ?_
      (try simp only [Act.put, List.getElem_toArray, List.getElem_cons_succ, List.getElem_cons_zero, List.setIfInBounds_toArray, List.set_cons_zero, List.set_cons_succ])
      refine kb_set K14.out 2 rfl 3 _ _ 11 (.int .i64 0) rfl (by rfl) rfl rfl (kb_run_set K14.out (i := 2) rfl 3 11 (.int .i64 (IntKind.i64.wrap (Int.tmod (x.n1 : Nat) 3))) (.int .i64 0) (by rfl) (fun W h1 h2 => by go_simp)) (poA ⟨0, 0, false, 0, (IntKind.i64.wrap (Int.tmod (x.no : Nat) 16)), x.f4, false, true, false, false, 0, 0, (IntKind.i64.wrap (Int.tmod (x.n2 : Nat) 3)), (x.v.r : Nat), (x.v.c : Nat), (x.v.b : Nat), (x.v.p : Nat), x.k0, x.k1, x.k2, x.k3⟩) (by kernel_rfl) ?_
      intro w15 hk
      have K15 := Lib.hid (show Kb w [(b1, lpA x, 55), (b2, #[.bool true, .bool false], 71), (b5, poA ⟨0, 0, false, 0, (IntKind.i64.wrap (Int.tmod (x.no : Nat) 16)), x.f4, false, true, false, false, 0, 0, (IntKind.i64.wrap (Int.tmod (x.n2 : Nat) 3)), (x.v.r : Nat), (x.v.c : Nat), (x.v.b : Nat), (x.v.p : Nat), x.k0, x.k1, x.k2, x.k3⟩, 62), (b8, poA ⟨0, 0, false, 0, (IntKind.i64.wrap (Int.tmod (x.no : Nat) 16)), x.f4, false, true, false, false, 0, 0, 0, 0, 0, 0, 0, 0, 0, 0, 0⟩, 62)] w15 from hk)
      clear hk
      (try simp only [Act.put, List.getElem_toArray, List.getElem_cons_succ, List.getElem_cons_zero, List.setIfInBounds_toArray, List.set_cons_zero, List.set_cons_succ])
      refine wpList_val (.pointer (some ⟨b5, 12, none⟩)) (by rfl) (by go_simp) ?_
      (try simp only [Act.put, List.getElem_toArray, List.getElem_cons_succ, List.getElem_cons_zero, List.setIfInBounds_toArray, List.set_cons_zero, List.set_cons_succ])
      refine kb_set K15.out 2 rfl 3 _ _ 12 (.int .i64 0) rfl (by rfl) rfl rfl (kb_run_set K15.out (i := 2) rfl 3 12 (.int .i64 (IntKind.i64.wrap (Int.tmod (x.n2 : Nat) 3))) (.int .i64 0) (by rfl) (fun W h1 h2 => by go_simp)) (poA ⟨0, 0, false, 0, (IntKind.i64.wrap (Int.tmod (x.no : Nat) 16)), x.f4, false, true, false, false, 0, 0, 0, (x.v.r : Nat), (x.v.c : Nat), (x.v.b : Nat), (x.v.p : Nat), x.k0, x.k1, x.k2, x.k3⟩) (by kernel_rfl) ?_
      intro w16 hk
      have K16 := Lib.hid (show Kb w [(b1, lpA x, 55), (b2, #[.bool true, .bool false], 71), (b5, poA ⟨0, 0, false, 0, (IntKind.i64.wrap (Int.tmod (x.no : Nat) 16)), x.f4, false, true, false, false, 0, 0, 0, (x.v.r : Nat), (x.v.c : Nat), (x.v.b : Nat), (x.v.p : Nat), x.k0, x.k1, x.k2, x.k3⟩, 62), (b8, poA ⟨0, 0, false, 0, (IntKind.i64.wrap (Int.tmod (x.no : Nat) 16)), x.f4, false, true, false, false, 0, 0, 0, 0, 0, 0, 0, 0, 0, 0, 0⟩, 62)] w16 from hk)
      clear hk
      (try simp only [Act.put, List.getElem_toArray, List.getElem_cons_succ, List.getElem_cons_zero, List.setIfInBounds_toArray, List.set_cons_zero, List.set_cons_succ])
      refine wpList_val (.pointer (some ⟨b5, 13, none⟩)) (by rfl) (by go_simp) ?_
      (try simp only [Act.put, List.getElem_toArray, List.getElem_cons_succ, List.getElem_cons_zero, List.setIfInBounds_toArray, List.set_cons_zero, List.set_cons_succ])
      refine kb_mid K16.out 2 rfl 44 _ _ 13 (nil4) rfl rfl rfl rfl (sizeV) (Nat.le_of_ble_eq_true (by kernel_rfl)) (by kernel_rfl) (poA ⟨0, 0, false, 0, (IntKind.i64.wrap (Int.tmod (x.no : Nat) 16)), x.f4, false, true, false, false, 0, 0, 0, 0, 0, 0, 0, x.k0, x.k1, x.k2, x.k3⟩) (by kernel_rfl) ?_
      intro w17 hk
      have K17 := Lib.hid (show Kb w [(b1, lpA x, 55), (b2, #[.bool true, .bool false], 71), (b5, poA ⟨0, 0, false, 0, (IntKind.i64.wrap (Int.tmod (x.no : Nat) 16)), x.f4, false, true, false, false, 0, 0, 0, 0, 0, 0, 0, x.k0, x.k1, x.k2, x.k3⟩, 62), (b8, poA ⟨0, 0, false, 0, (IntKind.i64.wrap (Int.tmod (x.no : Nat) 16)), x.f4, false, true, false, false, 0, 0, 0, 0, 0, 0, 0, 0, 0, 0, 0⟩, 62)] w17 from hk)
      clear hk
      (try simp only [Act.put, List.getElem_toArray, List.getElem_cons_succ, List.getElem_cons_zero, List.setIfInBounds_toArray, List.set_cons_zero, List.set_cons_succ])
      refine wpList_nil ?_
      go_upto_region 9 with fail
      refine wp_region_lit ?_
      refine wpList_val (.pointer (some ⟨b5, 17, none⟩)) (by rfl) (by go_simp) ?_
      (try simp only [Act.put, List.getElem_toArray, List.getElem_cons_succ, List.getElem_cons_zero, List.setIfInBounds_toArray, List.set_cons_zero, List.set_cons_succ])
      refine kb_set K17.out 2 rfl 3 _ _ 17 (.int .i64 0) rfl (by rfl) rfl rfl (kb_run_set K17.out (i := 2) rfl 3 17 (.int .i64 x.k0) (.int .i64 0) (by rfl) (fun W h1 h2 => by go_simp)) (poA ⟨0, 0, false, 0, (IntKind.i64.wrap (Int.tmod (x.no : Nat) 16)), x.f4, false, true, false, false, 0, 0, 0, 0, 0, 0, 0, 0, x.k1, x.k2, x.k3⟩) (by kernel_rfl) ?_
      intro w18 hk
      have K18 := Lib.hid (show Kb w [(b1, lpA x, 55), (b2, #[.bool true, .bool false], 71), (b5, poA ⟨0, 0, false, 0, (IntKind.i64.wrap (Int.tmod (x.no : Nat) 16)), x.f4, false, true, false, false, 0, 0, 0, 0, 0, 0, 0, 0, x.k1, x.k2, x.k3⟩, 62), (b8, poA ⟨0, 0, false, 0, (IntKind.i64.wrap (Int.tmod (x.no : Nat) 16)), x.f4, false, true, false, false, 0, 0, 0, 0, 0, 0, 0, 0, 0, 0, 0⟩, 62)] w18 from hk)
      clear hk
      (try simp only [Act.put, List.getElem_toArray, List.getElem_cons_succ, List.getElem_cons_zero, List.setIfInBounds_toArray, List.set_cons_zero, List.set_cons_succ])
      refine wpList_val (.pointer (some ⟨b5, 18, none⟩)) (by rfl) (by go_simp) ?_
      (try simp only [Act.put, List.getElem_toArray, List.getElem_cons_succ, List.getElem_cons_zero, List.setIfInBounds_toArray, List.set_cons_zero, List.set_cons_succ])
      refine kb_set K18.out 2 rfl 3 _ _ 18 (.int .i64 0) rfl (by rfl) rfl rfl (kb_run_set K18.out (i := 2) rfl 3 18 (.int .i64 x.k1) (.int .i64 0) (by rfl) (fun W h1 h2 => by go_simp)) (poA ⟨0, 0, false, 0, (IntKind.i64.wrap (Int.tmod (x.no : Nat) 16)), x.f4, false, true, false, false, 0, 0, 0, 0, 0, 0, 0, 0, 0, x.k2, x.k3⟩) (by kernel_rfl) ?_
      intro w19 hk
      have K19 := Lib.hid (show Kb w [(b1, lpA x, 55), (b2, #[.bool true, .bool false], 71), (b5, poA ⟨0, 0, false, 0, (IntKind.i64.wrap (Int.tmod (x.no : Nat) 16)), x.f4, false, true, false, false, 0, 0, 0, 0, 0, 0, 0, 0, 0, x.k2, x.k3⟩, 62), (b8, poA ⟨0, 0, false, 0, (IntKind.i64.wrap (Int.tmod (x.no : Nat) 16)), x.f4, false, true, false, false, 0, 0, 0, 0, 0, 0, 0, 0, 0, 0, 0⟩, 62)] w19 from hk)
      clear hk
      (try simp only [Act.put, List.getElem_toArray, List.getElem_cons_succ, List.getElem_cons_zero, List.setIfInBounds_toArray, List.set_cons_zero, List.set_cons_succ])
      refine wpList_val (.pointer (some ⟨b5, 19, none⟩)) (by rfl) (by go_simp) ?_
      (try simp only [Act.put, List.getElem_toArray, List.getElem_cons_succ, List.getElem_cons_zero, List.setIfInBounds_toArray, List.set_cons_zero, List.set_cons_succ])
      refine kb_set K19.out 2 rfl 3 _ _ 19 (.int .i64 0) rfl (by rfl) rfl rfl (kb_run_set K19.out (i := 2) rfl 3 19 (.int .i64 x.k2) (.int .i64 0) (by rfl) (fun W h1 h2 => by go_simp)) (poA ⟨0, 0, false, 0, (IntKind.i64.wrap (Int.tmod (x.no : Nat) 16)), x.f4, false, true, false, false, 0, 0, 0, 0, 0, 0, 0, 0, 0, 0, x.k3⟩) (by kernel_rfl) ?_
      intro w20 hk
      have K20 := Lib.hid (show Kb w [(b1, lpA x, 55), (b2, #[.bool true, .bool false], 71), (b5, poA ⟨0, 0, false, 0, (IntKind.i64.wrap (Int.tmod (x.no : Nat) 16)), x.f4, false, true, false, false, 0, 0, 0, 0, 0, 0, 0, 0, 0, 0, x.k3⟩, 62), (b8, poA ⟨0, 0, false, 0, (IntKind.i64.wrap (Int.tmod (x.no : Nat) 16)), x.f4, false, true, false, false, 0, 0, 0, 0, 0, 0, 0, 0, 0, 0, 0⟩, 62)] w20 from hk)
      clear hk
      (try simp only [Act.put, List.getElem_toArray, List.getElem_cons_succ, List.getElem_cons_zero, List.setIfInBounds_toArray, List.set_cons_zero, List.set_cons_succ])
      refine wpList_val (.pointer (some ⟨b5, 20, none⟩)) (by rfl) (by go_simp) ?_
      (try simp only [Act.put, List.getElem_toArray, List.getElem_cons_succ, List.getElem_cons_zero, List.setIfInBounds_toArray, List.set_cons_zero, List.set_cons_succ])
      refine kb_set K20.out 2 rfl 3 _ _ 20 (.int .i64 0) rfl (by rfl) rfl rfl (kb_run_set K20.out (i := 2) rfl 3 20 (.int .i64 x.k3) (.int .i64 0) (by rfl) (fun W h1 h2 => by go_simp)) (poA ⟨0, 0, false, 0, (IntKind.i64.wrap (Int.tmod (x.no : Nat) 16)), x.f4, false, true, false, false, 0, 0, 0, 0, 0, 0, 0, 0, 0, 0, 0⟩) (by kernel_rfl) ?_
      intro w21 hk
      have K21 := Lib.hid (show Kb w [(b1, lpA x, 55), (b2, #[.bool true, .bool false], 71), (b5, poA ⟨0, 0, false, 0, (IntKind.i64.wrap (Int.tmod (x.no : Nat) 16)), x.f4, false, true, false, false, 0, 0, 0, 0, 0, 0, 0, 0, 0, 0, 0⟩, 62), (b8, poA ⟨0, 0, false, 0, (IntKind.i64.wrap (Int.tmod (x.no : Nat) 16)), x.f4, false, true, false, false, 0, 0, 0, 0, 0, 0, 0, 0, 0, 0, 0⟩, 62)] w21 from hk)
      clear hk
      (try simp only [Act.put, List.getElem_toArray, List.getElem_cons_succ, List.getElem_cons_zero, List.setIfInBounds_toArray, List.set_cons_zero, List.set_cons_succ])
      refine wpList_nil ?_
      go_upto_region 10 with fail
      refine wp_region_lit ?_
      refine wpList_val (.bool false) (by rfl) (by go_simp) ?_
      (try simp only [Act.put, List.getElem_toArray, List.getElem_cons_succ, List.getElem_cons_zero, List.setIfInBounds_toArray, List.set_cons_zero, List.set_cons_succ])
      refine wpList_nil ?_
      go_upto_region 12 with fail
      refine wp_region_lit ?_
      refine wpList_val (.agg (poA ⟨0, 0, false, 0, (IntKind.i64.wrap (Int.tmod (x.no : Nat) 16)), x.f4, false, true, false, false, 0, 0, 0, 0, 0, 0, 0, 0, 0, 0, 0⟩)) (by rfl) (kb_all K21.out 3 rfl 62 _ rfl rfl Try.underlying62 rfl (size50)) ?_
      (try simp only [Act.put, List.getElem_toArray, List.getElem_cons_succ, List.getElem_cons_zero, List.setIfInBounds_toArray, List.set_cons_zero, List.set_cons_succ])
      refine wpList_val (.agg (poA ⟨0, 0, false, 0, (IntKind.i64.wrap (Int.tmod (x.no : Nat) 16)), x.f4, false, true, false, false, 0, 0, 0, 0, 0, 0, 0, 0, 0, 0, 0⟩)) (by rfl) (kb_all K21.out 2 rfl 62 _ rfl rfl Try.underlying62 rfl (size50)) ?_
      (try simp only [Act.put, List.getElem_toArray, List.getElem_cons_succ, List.getElem_cons_zero, List.setIfInBounds_toArray, List.set_cons_zero, List.set_cons_succ])
      refine wpList_val (.bool true) (by rfl) (by have q := eq_po ⟨0, 0, false, 0, (IntKind.i64.wrap (Int.tmod (x.no : Nat) 16)), x.f4, false, true, false, false, 0, 0, 0, 0, 0, 0, 0, 0, 0, 0, 0⟩; go_simp) ?_
      (try simp only [Act.put, List.getElem_toArray, List.getElem_cons_succ, List.getElem_cons_zero, List.setIfInBounds_toArray, List.set_cons_zero, List.set_cons_succ])
      refine wpList_val (.bool true) (by rfl) (by go_simp) ?_
      (try simp only [Act.put, List.getElem_toArray, List.getElem_cons_succ, List.getElem_cons_zero, List.setIfInBounds_toArray, List.set_cons_zero, List.set_cons_succ])
      refine wpList_nil ?_
      go_wp2_with fail
      go_ret
      exact ⟨ret_bool (rfl), K21.out.below⟩
    case true =>
      have K := Lib.hid (Kb.nil w)
      go_enter Try.func7, Try.ntmps7
      go_upto_region 0 with fail
      refine wp_region_lit ?_
      refine kb_box K.out 55 (.tmp 0) (lpA x) rfl rfl (by rfl) ?_
      intro b1 w1 hb1 hk
      have K1 := Lib.hid (show Kb w [(b1, lpA x, 55)] w1 from hk)
      clear hk hb1
      (try simp only [Act.put, List.getElem_toArray, List.getElem_cons_succ, List.getElem_cons_zero, List.setIfInBounds_toArray, List.set_cons_zero, List.set_cons_succ])
      refine kb_box K1.out 71 (.tmp 1) (#[.bool true, .bool true]) rfl rfl (by rfl) ?_
      intro b2 w2 hb2 hk
      have K2 := Lib.hid (show Kb w [(b1, lpA x, 55), (b2, #[.bool true, .bool true], 71)] w2 from hk)
      clear hk hb2
      (try simp only [Act.put, List.getElem_toArray, List.getElem_cons_succ, List.getElem_cons_zero, List.setIfInBounds_toArray, List.set_cons_zero, List.set_cons_succ])
      refine wpList_val (.bool false) (by rfl) (by go_simp) ?_
      (try simp only [Act.put, List.getElem_toArray, List.getElem_cons_succ, List.getElem_cons_zero, List.setIfInBounds_toArray, List.set_cons_zero, List.set_cons_succ])
      refine wpList_nil ?_
      go_upto_region 1 with fail
      refine wp_region_lit ?_
      refine kb_call K2.out 14 #[] (.bool true) (by rfl) (by go_simp) (ispeaks_any w2) ?_
      intro w3 hk
      have K3 := Lib.hid (show Kb w [(b1, lpA x, 55), (b2, #[.bool true, .bool true], 71)] w3 from hk)
      clear hk
      (try simp only [Act.put, List.getElem_toArray, List.getElem_cons_succ, List.getElem_cons_zero, List.setIfInBounds_toArray, List.set_cons_zero, List.set_cons_succ])
      refine wpList_val (.bool false) (by rfl) (by go_simp) ?_
      (try simp only [Act.put, List.getElem_toArray, List.getElem_cons_succ, List.getElem_cons_zero, List.setIfInBounds_toArray, List.set_cons_zero, List.set_cons_succ])
      refine wpList_nil ?_
      go_upto_region 3 with fail
      refine wp_region_lit ?_
      refine wpList_val (.agg (lpA x)) (by rfl) (kb_all K3.out 0 rfl 55 _ rfl rfl Try.underlying55 rfl (size55)) ?_
      (try simp only [Act.put, List.getElem_toArray, List.getElem_cons_succ, List.getElem_cons_zero, List.setIfInBounds_toArray, List.set_cons_zero, List.set_cons_succ])
      refine kb_call K3.out 15 #[.agg (lpA x)] (.agg (poA ⟨0, 0, false, 0, (IntKind.i64.wrap (Int.tmod (x.no : Nat) 16)), x.f4, true, true, x.f2, x.f3, (IntKind.i64.wrap (Int.tmod (x.n0 : Nat) 5)), (IntKind.i64.wrap (Int.tmod (x.n1 : Nat) 3)), (IntKind.i64.wrap (Int.tmod (x.n2 : Nat) 3)), (x.v.r : Nat), (x.v.c : Nat), (x.v.b : Nat), (x.v.p : Nat), x.k0, x.k1, x.k2, x.k3⟩)) (by rfl) (by go_simp) (made_is x ⟨0, 0, false, 0, (IntKind.i64.wrap (Int.tmod (x.no : Nat) 16)), x.f4, true, true, x.f2, x.f3, (IntKind.i64.wrap (Int.tmod (x.n0 : Nat) 5)), (IntKind.i64.wrap (Int.tmod (x.n1 : Nat) 3)), (IntKind.i64.wrap (Int.tmod (x.n2 : Nat) 3)), (x.v.r : Nat), (x.v.c : Nat), (x.v.b : Nat), (x.v.p : Nat), x.k0, x.k1, x.k2, x.k3⟩ (by unfold madeP; rw [HU.out, HA.out]) w3) ?_
      intro w4 hk
      have K4 := Lib.hid (show Kb w [(b1, lpA x, 55), (b2, #[.bool true, .bool true], 71)] w4 from hk)
      clear hk
      (try simp only [Act.put, List.getElem_toArray, List.getElem_cons_succ, List.getElem_cons_zero, List.setIfInBounds_toArray, List.set_cons_zero, List.set_cons_succ])
      refine kb_alloc K4.out 62 (nil21) rfl z50 (by rfl) ?_
      intro b5 w5 hb5 hk
      have K5 := Lib.hid (show Kb w [(b1, lpA x, 55), (b2, #[.bool true, .bool true], 71), (b5, nil21, 62)] w5 from hk)
      clear hk hb5
      (try simp only [Act.put, List.getElem_toArray, List.getElem_cons_succ, List.getElem_cons_zero, List.setIfInBounds_toArray, List.set_cons_zero, List.set_cons_succ])
      refine kb_row K5.out 2 rfl 62 _ _ (poA ⟨0, 0, false, 0, (IntKind.i64.wrap (Int.tmod (x.no : Nat) 16)), x.f4, true, true, x.f2, x.f3, (IntKind.i64.wrap (Int.tmod (x.n0 : Nat) 5)), (IntKind.i64.wrap (Int.tmod (x.n1 : Nat) 3)), (IntKind.i64.wrap (Int.tmod (x.n2 : Nat) 3)), (x.v.r : Nat), (x.v.c : Nat), (x.v.b : Nat), (x.v.p : Nat), x.k0, x.k1, x.k2, x.k3⟩) rfl rfl rfl rfl (size50) (by rfl) (po_all _) ?_
      intro w6 hk
      have K6 := Lib.hid (show Kb w [(b1, lpA x, 55), (b2, #[.bool true, .bool true], 71), (b5, poA ⟨0, 0, false, 0, (IntKind.i64.wrap (Int.tmod (x.no : Nat) 16)), x.f4, true, true, x.f2, x.f3, (IntKind.i64.wrap (Int.tmod (x.n0 : Nat) 5)), (IntKind.i64.wrap (Int.tmod (x.n1 : Nat) 3)), (IntKind.i64.wrap (Int.tmod (x.n2 : Nat) 3)), (x.v.r : Nat), (x.v.c : Nat), (x.v.b : Nat), (x.v.p : Nat), x.k0, x.k1, x.k2, x.k3⟩, 62)] w6 from hk)
      clear hk
      (try simp only [Act.put, List.getElem_toArray, List.getElem_cons_succ, List.getElem_cons_zero, List.setIfInBounds_toArray, List.set_cons_zero, List.set_cons_succ])
      refine wpList_nil ?_
      go_upto_region 4 with fail
      refine wp_region_lit ?_
      refine wpList_val (.agg (poA ⟨0, 0, false, 0, (IntKind.i64.wrap (Int.tmod (x.no : Nat) 16)), x.f4, true, true, x.f2, x.f3, (IntKind.i64.wrap (Int.tmod (x.n0 : Nat) 5)), (IntKind.i64.wrap (Int.tmod (x.n1 : Nat) 3)), (IntKind.i64.wrap (Int.tmod (x.n2 : Nat) 3)), (x.v.r : Nat), (x.v.c : Nat), (x.v.b : Nat), (x.v.p : Nat), x.k0, x.k1, x.k2, x.k3⟩)) (by rfl) (kb_all K6.out 2 rfl 62 _ rfl rfl Try.underlying62 rfl (size50)) ?_
      (try simp only [Act.put, List.getElem_toArray, List.getElem_cons_succ, List.getElem_cons_zero, List.setIfInBounds_toArray, List.set_cons_zero, List.set_cons_succ])
      refine wpList_val (.pointer (some ⟨b2, 0, none⟩)) (by rfl) (by go_simp) ?_
      (try simp only [Act.put, List.getElem_toArray, List.getElem_cons_succ, List.getElem_cons_zero, List.setIfInBounds_toArray, List.set_cons_zero, List.set_cons_succ])
      refine wpList_val (.bool true) (by rfl) (by have q : w6.cell? ⟨b2, 0, none⟩ = some (.bool true) := K6.out.cell (i := 1) rfl (by rfl); go_simp) ?_
      (try simp only [Act.put, List.getElem_toArray, List.getElem_cons_succ, List.getElem_cons_zero, List.setIfInBounds_toArray, List.set_cons_zero, List.set_cons_succ])
      refine wpList_val (.pointer (some ⟨b2, 1, none⟩)) (by rfl) (by go_simp) ?_
      (try simp only [Act.put, List.getElem_toArray, List.getElem_cons_succ, List.getElem_cons_zero, List.setIfInBounds_toArray, List.set_cons_zero, List.set_cons_succ])
      refine wpList_val (.bool true) (by rfl) (by have q : w6.cell? ⟨b2, 1, none⟩ = some (.bool true) := K6.out.cell (i := 1) rfl (by rfl); go_simp) ?_
      (try simp only [Act.put, List.getElem_toArray, List.getElem_cons_succ, List.getElem_cons_zero, List.setIfInBounds_toArray, List.set_cons_zero, List.set_cons_succ])
      refine wpList_val (.int .i64 dl) (by rfl) (by go_simp) ?_
      (try simp only [Act.put, List.getElem_toArray, List.getElem_cons_succ, List.getElem_cons_zero, List.setIfInBounds_toArray, List.set_cons_zero, List.set_cons_succ])
      refine wpList_val (.agg (cfA ⟨0, 0, 0, dl, 0, 0⟩)) (by rfl) (run_build_of 58 [(3, .tmp 20)] rfl _ (cfA ⟨0, 0, 0, dl, 0, 0⟩) rfl (by kernel_rfl)) ?_
      (try simp only [Act.put, List.getElem_toArray, List.getElem_cons_succ, List.getElem_cons_zero, List.setIfInBounds_toArray, List.set_cons_zero, List.set_cons_succ])
      refine kb_call K6.out 19 #[.agg (poA ⟨0, 0, false, 0, (IntKind.i64.wrap (Int.tmod (x.no : Nat) 16)), x.f4, true, true, x.f2, x.f3, (IntKind.i64.wrap (Int.tmod (x.n0 : Nat) 5)), (IntKind.i64.wrap (Int.tmod (x.n1 : Nat) 3)), (IntKind.i64.wrap (Int.tmod (x.n2 : Nat) 3)), (x.v.r : Nat), (x.v.c : Nat), (x.v.b : Nat), (x.v.p : Nat), x.k0, x.k1, x.k2, x.k3⟩), .bool true, .bool true, .agg (cfA ⟨0, 0, 0, dl, 0, 0⟩)] (.agg (poA ⟨0, 0, false, 0, (IntKind.i64.wrap (Int.tmod (x.no : Nat) 16)), x.f4, true, true, x.f2, x.f3, (IntKind.i64.wrap (Int.tmod (x.n0 : Nat) 5)), (IntKind.i64.wrap (Int.tmod (x.n1 : Nat) 3)), (IntKind.i64.wrap (Int.tmod (x.n2 : Nat) 3)), (x.v.r : Nat), (x.v.c : Nat), (x.v.b : Nat), (x.v.p : Nat), x.k0, x.k1, x.k2, x.k3⟩)) (by rfl) (by go_simp) (switch_is ⟨0, 0, false, 0, (IntKind.i64.wrap (Int.tmod (x.no : Nat) 16)), x.f4, true, true, x.f2, x.f3, (IntKind.i64.wrap (Int.tmod (x.n0 : Nat) 5)), (IntKind.i64.wrap (Int.tmod (x.n1 : Nat) 3)), (IntKind.i64.wrap (Int.tmod (x.n2 : Nat) 3)), (x.v.r : Nat), (x.v.c : Nat), (x.v.b : Nat), (x.v.p : Nat), x.k0, x.k1, x.k2, x.k3⟩ true true ⟨0, 0, 0, dl, 0, 0⟩ ⟨0, 0, false, 0, (IntKind.i64.wrap (Int.tmod (x.no : Nat) 16)), x.f4, true, true, x.f2, x.f3, (IntKind.i64.wrap (Int.tmod (x.n0 : Nat) 5)), (IntKind.i64.wrap (Int.tmod (x.n1 : Nat) 3)), (IntKind.i64.wrap (Int.tmod (x.n2 : Nat) 3)), (x.v.r : Nat), (x.v.c : Nat), (x.v.b : Nat), (x.v.p : Nat), x.k0, x.k1, x.k2, x.k3⟩ (by kernel_rfl) w6) ?_
      intro w7 hk
      have K7 := Lib.hid (show Kb w [(b1, lpA x, 55), (b2, #[.bool true, .bool true], 71), (b5, poA ⟨0, 0, false, 0, (IntKind.i64.wrap (Int.tmod (x.no : Nat) 16)), x.f4, true, true, x.f2, x.f3, (IntKind.i64.wrap (Int.tmod (x.n0 : Nat) 5)), (IntKind.i64.wrap (Int.tmod (x.n1 : Nat) 3)), (IntKind.i64.wrap (Int.tmod (x.n2 : Nat) 3)), (x.v.r : Nat), (x.v.c : Nat), (x.v.b : Nat), (x.v.p : Nat), x.k0, x.k1, x.k2, x.k3⟩, 62)] w7 from hk)
      clear hk
      (try simp only [Act.put, List.getElem_toArray, List.getElem_cons_succ, List.getElem_cons_zero, List.setIfInBounds_toArray, List.set_cons_zero, List.set_cons_succ])
      refine kb_alloc K7.out 62 (nil21) rfl z50 (by rfl) ?_
      intro b8 w8 hb8 hk
      have K8 := Lib.hid (show Kb w [(b1, lpA x, 55), (b2, #[.bool true, .bool true], 71), (b5, poA ⟨0, 0, false, 0, (IntKind.i64.wrap (Int.tmod (x.no : Nat) 16)), x.f4, true, true, x.f2, x.f3, (IntKind.i64.wrap (Int.tmod (x.n0 : Nat) 5)), (IntKind.i64.wrap (Int.tmod (x.n1 : Nat) 3)), (IntKind.i64.wrap (Int.tmod (x.n2 : Nat) 3)), (x.v.r : Nat), (x.v.c : Nat), (x.v.b : Nat), (x.v.p : Nat), x.k0, x.k1, x.k2, x.k3⟩, 62), (b8, nil21, 62)] w8 from hk)
      clear hk hb8
      (try simp only [Act.put, List.getElem_toArray, List.getElem_cons_succ, List.getElem_cons_zero, List.setIfInBounds_toArray, List.set_cons_zero, List.set_cons_succ])
      refine kb_row K8.out 3 rfl 62 _ _ (poA ⟨0, 0, false, 0, (IntKind.i64.wrap (Int.tmod (x.no : Nat) 16)), x.f4, true, true, x.f2, x.f3, (IntKind.i64.wrap (Int.tmod (x.n0 : Nat) 5)), (IntKind.i64.wrap (Int.tmod (x.n1 : Nat) 3)), (IntKind.i64.wrap (Int.tmod (x.n2 : Nat) 3)), (x.v.r : Nat), (x.v.c : Nat), (x.v.b : Nat), (x.v.p : Nat), x.k0, x.k1, x.k2, x.k3⟩) rfl rfl rfl rfl (size50) (by rfl) (po_all _) ?_
      intro w9 hk
      have K9 := Lib.hid (show Kb w [(b1, lpA x, 55), (b2, #[.bool true, .bool true], 71), (b5, poA ⟨0, 0, false, 0, (IntKind.i64.wrap (Int.tmod (x.no : Nat) 16)), x.f4, true, true, x.f2, x.f3, (IntKind.i64.wrap (Int.tmod (x.n0 : Nat) 5)), (IntKind.i64.wrap (Int.tmod (x.n1 : Nat) 3)), (IntKind.i64.wrap (Int.tmod (x.n2 : Nat) 3)), (x.v.r : Nat), (x.v.c : Nat), (x.v.b : Nat), (x.v.p : Nat), x.k0, x.k1, x.k2, x.k3⟩, 62), (b8, poA ⟨0, 0, false, 0, (IntKind.i64.wrap (Int.tmod (x.no : Nat) 16)), x.f4, true, true, x.f2, x.f3, (IntKind.i64.wrap (Int.tmod (x.n0 : Nat) 5)), (IntKind.i64.wrap (Int.tmod (x.n1 : Nat) 3)), (IntKind.i64.wrap (Int.tmod (x.n2 : Nat) 3)), (x.v.r : Nat), (x.v.c : Nat), (x.v.b : Nat), (x.v.p : Nat), x.k0, x.k1, x.k2, x.k3⟩, 62)] w9 from hk)
      clear hk
      (try simp only [Act.put, List.getElem_toArray, List.getElem_cons_succ, List.getElem_cons_zero, List.setIfInBounds_toArray, List.set_cons_zero, List.set_cons_succ])
      refine wpList_nil ?_
      go_upto_region 5 with fail
      refine wp_region_inv (I := fun L ac w' => ac = SwA22 x dl ad b1 b2 b5 b8 L ∧ Kb w [(b1, lpA x, 55), (b2, #[.bool true, .bool true], 71), (b5, poA ⟨0, 0, false, 0, (IntKind.i64.wrap (Int.tmod (x.no : Nat) 16)), x.f4, true, true, x.f2, x.f3, (IntKind.i64.wrap (Int.tmod (x.n0 : Nat) 5)), (IntKind.i64.wrap (Int.tmod (x.n1 : Nat) 3)), (IntKind.i64.wrap (Int.tmod (x.n2 : Nat) 3)), (x.v.r : Nat), (x.v.c : Nat), (x.v.b : Nat), (x.v.p : Nat), x.k0, x.k1, x.k2, x.k3⟩, 62), (b8, poA ⟨0, 0, false, 0, (IntKind.i64.wrap (Int.tmod (x.no : Nat) 16)), x.f4, true, true, x.f2, x.f3, (IntKind.i64.wrap (Int.tmod (x.n0 : Nat) 5)), (IntKind.i64.wrap (Int.tmod (x.n1 : Nat) 3)), (IntKind.i64.wrap (Int.tmod (x.n2 : Nat) 3)), (x.v.r : Nat), (x.v.c : Nat), (x.v.b : Nat), (x.v.p : Nat), x.k0, x.k1, x.k2, x.k3⟩, 62)] w') (by kernel_rfl) (by kernel_rfl) ⟨by kernel_rfl, K9.out.drew⟩ ?_ ?_
      · intro i hi Lx ac w' hI hL haft
        obtain ⟨rfl, hw⟩ := hI
        match i, hi with
        | 0, _ =>
          have g7 : (SwA22 x dl ad b1 b2 b5 b8 Lx).tmps[7]?.getD undef = .pointer (some ⟨b5, 0, none⟩) := by kernel_rfl
          have e7 : (SwA22 x dl ad b1 b2 b5 b8 Lx).eval (.tmp 7) = .pointer (some ⟨b5, 0, none⟩) := by kernel_rfl
          exact i_val rfl (.pointer (some ⟨b5, 7, none⟩)) w' (by rfl) (by go_simp) ⟨by kernel_rfl, hw⟩
        | 1, _ =>
          have h0 := haft 0 (by decide)
          have e23 : (SwA22 x dl ad b1 b2 b5 b8 Lx).eval (.tmp 23) = .pointer (some ⟨b5, 7, none⟩) := by show (bif Lx 0 then _ else _) = _; rw [h0]; rfl
          have g23 : (SwA22 x dl ad b1 b2 b5 b8 Lx).tmps[23]?.getD undef = .pointer (some ⟨b5, 7, none⟩) := by show (bif Lx 0 then _ else _) = _; rw [h0]; rfl
          exact i_val rfl (.bool true) w' (by rfl) (by have q : w'.cell? ⟨b5, 7, none⟩ = some (.bool true) := Kb.cell (i := 2) hw rfl (by rfl); go_simp) ⟨by kernel_rfl, hw⟩
        | 2, _ =>
          have h1 := haft 1 (by decide)
          have e24 : (SwA22 x dl ad b1 b2 b5 b8 Lx).eval (.tmp 24) = .bool true := by show (bif Lx 1 then _ else _) = _; rw [h1]; rfl
          have g24 : (SwA22 x dl ad b1 b2 b5 b8 Lx).tmps[24]?.getD undef = .bool true := by show (bif Lx 1 then _ else _) = _; rw [h1]; rfl
          exact i_val rfl (.bool true) w' (by rfl) (by go_simp) ⟨by kernel_rfl, hw⟩
        | 3, _ =>
          have g7 : (SwA22 x dl ad b1 b2 b5 b8 Lx).tmps[7]?.getD undef = .pointer (some ⟨b5, 0, none⟩) := by kernel_rfl
          have e7 : (SwA22 x dl ad b1 b2 b5 b8 Lx).eval (.tmp 7) = .pointer (some ⟨b5, 0, none⟩) := by kernel_rfl
          have hg2 := haft 2 (by decide)
          have q25 : (SwA22 x dl ad b1 b2 b5 b8 Lx).tmps[25]? = some (.bool true) := by show some (bif Lx 2 then _ else _) = _; rw [hg2]; rfl
          exact i_val rfl (.pointer (some ⟨b5, 6, none⟩)) w' (wanted_of rfl rfl q25 rfl) (by go_simp) ⟨by kernel_rfl, hw⟩
        | 4, _ =>
          have h3 := haft 3 (by decide)
          have e26 : (SwA22 x dl ad b1 b2 b5 b8 Lx).eval (.tmp 26) = .pointer (some ⟨b5, 6, none⟩) := by show (bif Lx 3 then _ else _) = _; rw [h3]; rfl
          have g26 : (SwA22 x dl ad b1 b2 b5 b8 Lx).tmps[26]?.getD undef = .pointer (some ⟨b5, 6, none⟩) := by show (bif Lx 3 then _ else _) = _; rw [h3]; rfl
          have hg2 := haft 2 (by decide)
          have q25 : (SwA22 x dl ad b1 b2 b5 b8 Lx).tmps[25]? = some (.bool true) := by show some (bif Lx 2 then _ else _) = _; rw [hg2]; rfl
          exact i_val rfl (.bool true) w' (wanted_of rfl rfl q25 rfl) (by have q : w'.cell? ⟨b5, 6, none⟩ = some (.bool true) := Kb.cell (i := 2) hw rfl (by rfl); go_simp) ⟨by kernel_rfl, hw⟩
        | 5, _ =>
          have h2 := haft 2 (by decide)
          have e25 : (SwA22 x dl ad b1 b2 b5 b8 Lx).eval (.tmp 25) = .bool true := by show (bif Lx 2 then _ else _) = _; rw [h2]; rfl
          have g25 : (SwA22 x dl ad b1 b2 b5 b8 Lx).tmps[25]?.getD undef = .bool true := by show (bif Lx 2 then _ else _) = _; rw [h2]; rfl
          have h4 := haft 4 (by decide)
          have e27 : (SwA22 x dl ad b1 b2 b5 b8 Lx).eval (.tmp 27) = .bool true := by show (bif Lx 4 then _ else _) = _; rw [h4]; rfl
          have g27 : (SwA22 x dl ad b1 b2 b5 b8 Lx).tmps[27]?.getD undef = .bool true := by show (bif Lx 4 then _ else _) = _; rw [h4]; rfl
          exact i_val rfl (.bool true) w' (by rfl) (run_pick_yes (.tmp 25) (.tmp 27) (.const (.bool false)) _ rfl e25 e27) ⟨by kernel_rfl, hw⟩
        | 6, _ =>
          have g4 : (SwA22 x dl ad b1 b2 b5 b8 Lx).tmps[4]?.getD undef = .pointer (some ⟨b2, 0, none⟩) := by kernel_rfl
          have e4 : (SwA22 x dl ad b1 b2 b5 b8 Lx).eval (.tmp 4) = .pointer (some ⟨b2, 0, none⟩) := by kernel_rfl
          exact i_val rfl (.pointer (some ⟨b2, 0, none⟩)) w' (by rfl) (by go_simp) ⟨by kernel_rfl, hw⟩
        | 7, _ =>
          have h6 := haft 6 (by decide)
          have e29 : (SwA22 x dl ad b1 b2 b5 b8 Lx).eval (.tmp 29) = .pointer (some ⟨b2, 0, none⟩) := by show (bif Lx 6 then _ else _) = _; rw [h6]; rfl
          have g29 : (SwA22 x dl ad b1 b2 b5 b8 Lx).tmps[29]?.getD undef = .pointer (some ⟨b2, 0, none⟩) := by show (bif Lx 6 then _ else _) = _; rw [h6]; rfl
          exact i_val rfl (.bool true) w' (by rfl) (by have q : w'.cell? ⟨b2, 0, none⟩ = some (.bool true) := Kb.cell (i := 1) hw rfl (by rfl); go_simp) ⟨by kernel_rfl, hw⟩
        | 8, _ =>
          have h7 := haft 7 (by decide)
          have e30 : (SwA22 x dl ad b1 b2 b5 b8 Lx).eval (.tmp 30) = .bool true := by show (bif Lx 7 then _ else _) = _; rw [h7]; rfl
          have g30 : (SwA22 x dl ad b1 b2 b5 b8 Lx).tmps[30]?.getD undef = .bool true := by show (bif Lx 7 then _ else _) = _; rw [h7]; rfl
          exact i_val rfl (.bool true) w' (by rfl) (by go_simp) ⟨by kernel_rfl, hw⟩
        | 9, _ =>
          have g4 : (SwA22 x dl ad b1 b2 b5 b8 Lx).tmps[4]?.getD undef = .pointer (some ⟨b2, 0, none⟩) := by kernel_rfl
          have e4 : (SwA22 x dl ad b1 b2 b5 b8 Lx).eval (.tmp 4) = .pointer (some ⟨b2, 0, none⟩) := by kernel_rfl
          have hg8 := haft 8 (by decide)
          have q31 : (SwA22 x dl ad b1 b2 b5 b8 Lx).tmps[31]? = some (.bool true) := by show some (bif Lx 8 then _ else _) = _; rw [hg8]; rfl
          exact i_val rfl (.pointer (some ⟨b2, 1, none⟩)) w' (wanted_of rfl rfl q31 rfl) (by go_simp) ⟨by kernel_rfl, hw⟩
        | 10, _ =>
          have h9 := haft 9 (by decide)
          have e32 : (SwA22 x dl ad b1 b2 b5 b8 Lx).eval (.tmp 32) = .pointer (some ⟨b2, 1, none⟩) := by show (bif Lx 9 then _ else _) = _; rw [h9]; rfl
          have g32 : (SwA22 x dl ad b1 b2 b5 b8 Lx).tmps[32]?.getD undef = .pointer (some ⟨b2, 1, none⟩) := by show (bif Lx 9 then _ else _) = _; rw [h9]; rfl
          have hg8 := haft 8 (by decide)
          have q31 : (SwA22 x dl ad b1 b2 b5 b8 Lx).tmps[31]? = some (.bool true) := by show some (bif Lx 8 then _ else _) = _; rw [hg8]; rfl
          exact i_val rfl (.bool true) w' (wanted_of rfl rfl q31 rfl) (by have q : w'.cell? ⟨b2, 1, none⟩ = some (.bool true) := Kb.cell (i := 1) hw rfl (by rfl); go_simp) ⟨by kernel_rfl, hw⟩
        | 11, _ =>
          have h8 := haft 8 (by decide)
          have e31 : (SwA22 x dl ad b1 b2 b5 b8 Lx).eval (.tmp 31) = .bool true := by show (bif Lx 8 then _ else _) = _; rw [h8]; rfl
          have g31 : (SwA22 x dl ad b1 b2 b5 b8 Lx).tmps[31]?.getD undef = .bool true := by show (bif Lx 8 then _ else _) = _; rw [h8]; rfl
          have h10 := haft 10 (by decide)
          have e33 : (SwA22 x dl ad b1 b2 b5 b8 Lx).eval (.tmp 33) = .bool true := by show (bif Lx 10 then _ else _) = _; rw [h10]; rfl
          have g33 : (SwA22 x dl ad b1 b2 b5 b8 Lx).tmps[33]?.getD undef = .bool true := by show (bif Lx 10 then _ else _) = _; rw [h10]; rfl
          exact i_val rfl (.bool true) w' (by rfl) (run_pick_yes (.tmp 31) (.tmp 33) (.const (.bool false)) _ rfl e31 e33) ⟨by kernel_rfl, hw⟩
        | 12, _ =>
          have h5 := haft 5 (by decide)
          have e28 : (SwA22 x dl ad b1 b2 b5 b8 Lx).eval (.tmp 28) = .bool true := by show (bif Lx 5 then _ else _) = _; rw [h5]; rfl
          have g28 : (SwA22 x dl ad b1 b2 b5 b8 Lx).tmps[28]?.getD undef = .bool true := by show (bif Lx 5 then _ else _) = _; rw [h5]; rfl
          exact i_val rfl (.bool true) w' (by rfl) (by go_simp) ⟨by kernel_rfl, hw⟩
        | 13, _ =>
          have h11 := haft 11 (by decide)
          have e34 : (SwA22 x dl ad b1 b2 b5 b8 Lx).eval (.tmp 34) = .bool true := by show (bif Lx 11 then _ else _) = _; rw [h11]; rfl
          have g34 : (SwA22 x dl ad b1 b2 b5 b8 Lx).tmps[34]?.getD undef = .bool true := by show (bif Lx 11 then _ else _) = _; rw [h11]; rfl
          exact i_val rfl (.bool true) w' (by rfl) (by go_simp) ⟨by kernel_rfl, hw⟩
        | k + 14, h =>
          exfalso
          have h2 : k + 14 < 14 := h
          omega
      intro Lx ac w10 hI hall
      obtain ⟨rfl, hw⟩ := hI
      have hfr : SwA22 x dl ad b1 b2 b5 b8 Lx = { tmps := #[.agg (lpA x), .agg (#[.bool true, .bool true]), .int .i64 dl, .pointer (some ⟨b1, 0, none⟩), .pointer (some ⟨b2, 0, none⟩), undef, .bool false, .pointer (some ⟨b5, 0, none⟩), .pointer (some ⟨b8, 0, none⟩), .bool true, .bool true, .bool true, .bool false, .agg (lpA x), .agg (poA ⟨0, 0, false, 0, (IntKind.i64.wrap (Int.tmod (x.no : Nat) 16)), x.f4, true, true, x.f2, x.f3, (IntKind.i64.wrap (Int.tmod (x.n0 : Nat) 5)), (IntKind.i64.wrap (Int.tmod (x.n1 : Nat) 3)), (IntKind.i64.wrap (Int.tmod (x.n2 : Nat) 3)), (x.v.r : Nat), (x.v.c : Nat), (x.v.b : Nat), (x.v.p : Nat), x.k0, x.k1, x.k2, x.k3⟩), .agg (poA ⟨0, 0, false, 0, (IntKind.i64.wrap (Int.tmod (x.no : Nat) 16)), x.f4, true, true, x.f2, x.f3, (IntKind.i64.wrap (Int.tmod (x.n0 : Nat) 5)), (IntKind.i64.wrap (Int.tmod (x.n1 : Nat) 3)), (IntKind.i64.wrap (Int.tmod (x.n2 : Nat) 3)), (x.v.r : Nat), (x.v.c : Nat), (x.v.b : Nat), (x.v.p : Nat), x.k0, x.k1, x.k2, x.k3⟩), .pointer (some ⟨b2, 0, none⟩), .bool true, .pointer (some ⟨b2, 1, none⟩), .bool true, .int .i64 dl, .agg (cfA ⟨0, 0, 0, dl, 0, 0⟩), .agg (poA ⟨0, 0, false, 0, (IntKind.i64.wrap (Int.tmod (x.no : Nat) 16)), x.f4, true, true, x.f2, x.f3, (IntKind.i64.wrap (Int.tmod (x.n0 : Nat) 5)), (IntKind.i64.wrap (Int.tmod (x.n1 : Nat) 3)), (IntKind.i64.wrap (Int.tmod (x.n2 : Nat) 3)), (x.v.r : Nat), (x.v.c : Nat), (x.v.b : Nat), (x.v.p : Nat), x.k0, x.k1, x.k2, x.k3⟩), .pointer (some ⟨b5, 7, none⟩), .bool true, .bool true, .pointer (some ⟨b5, 6, none⟩), .bool true, .bool true, .pointer (some ⟨b2, 0, none⟩), .bool true, .bool true, .pointer (some ⟨b2, 1, none⟩), .bool true, .bool true, undef, undef, undef, undef, undef, undef, undef, undef, undef, undef, undef, undef, undef, undef, undef, undef, undef, undef, undef, undef, undef, undef, undef, undef, undef, undef, undef, undef, undef, undef], defers := [] } := by unfold SwA22; simp only [hall 0 (by decide), hall 1 (by decide), hall 2 (by decide), hall 3 (by decide), hall 4 (by decide), hall 5 (by decide), hall 6 (by decide), hall 7 (by decide), hall 8 (by decide), hall 9 (by decide), hall 10 (by decide), hall 11 (by decide), hall 12 (by decide), hall 13 (by decide), cond_true]
      rw [hfr]
      clear hfr
      have K10 := Lib.hid (show Kb w [(b1, lpA x, 55), (b2, #[.bool true, .bool true], 71), (b5, poA ⟨0, 0, false, 0, (IntKind.i64.wrap (Int.tmod (x.no : Nat) 16)), x.f4, true, true, x.f2, x.f3, (IntKind.i64.wrap (Int.tmod (x.n0 : Nat) 5)), (IntKind.i64.wrap (Int.tmod (x.n1 : Nat) 3)), (IntKind.i64.wrap (Int.tmod (x.n2 : Nat) 3)), (x.v.r : Nat), (x.v.c : Nat), (x.v.b : Nat), (x.v.p : Nat), x.k0, x.k1, x.k2, x.k3⟩, 62), (b8, poA ⟨0, 0, false, 0, (IntKind.i64.wrap (Int.tmod (x.no : Nat) 16)), x.f4, true, true, x.f2, x.f3, (IntKind.i64.wrap (Int.tmod (x.n0 : Nat) 5)), (IntKind.i64.wrap (Int.tmod (x.n1 : Nat) 3)), (IntKind.i64.wrap (Int.tmod (x.n2 : Nat) 3)), (x.v.r : Nat), (x.v.c : Nat), (x.v.b : Nat), (x.v.p : Nat), x.k0, x.k1, x.k2, x.k3⟩, 62)] w10 from hw)
      clear hw hall
      go_upto_region 6 with fail
      refine wp_region_inv (I := fun L ac w' => ac = SwB22 x dl ad b1 b2 b5 b8 L ∧ Kb w [(b1, lpA x, 55), (b2, #[.bool true, .bool true], 71), (b5, poA ⟨0, 0, false, 0, (IntKind.i64.wrap (Int.tmod (x.no : Nat) 16)), x.f4, (bif L 7 then true else true), (bif L 5 then true else true), x.f2, x.f3, (IntKind.i64.wrap (Int.tmod (x.n0 : Nat) 5)), (IntKind.i64.wrap (Int.tmod (x.n1 : Nat) 3)), (IntKind.i64.wrap (Int.tmod (x.n2 : Nat) 3)), (x.v.r : Nat), (x.v.c : Nat), (x.v.b : Nat), (x.v.p : Nat), x.k0, x.k1, x.k2, x.k3⟩, 62), (b8, poA ⟨0, 0, false, 0, (IntKind.i64.wrap (Int.tmod (x.no : Nat) 16)), x.f4, true, true, x.f2, x.f3, (IntKind.i64.wrap (Int.tmod (x.n0 : Nat) 5)), (IntKind.i64.wrap (Int.tmod (x.n1 : Nat) 3)), (IntKind.i64.wrap (Int.tmod (x.n2 : Nat) 3)), (x.v.r : Nat), (x.v.c : Nat), (x.v.b : Nat), (x.v.p : Nat), x.k0, x.k1, x.k2, x.k3⟩, 62)] w') (by kernel_rfl) (by kernel_rfl) ⟨by kernel_rfl, K10.out.drew⟩ ?_ ?_
      · intro i hi Lx ac w' hI hL haft
        obtain ⟨rfl, hw⟩ := hI
        match i, hi with
        | 0, _ =>
          have g4 : (SwB22 x dl ad b1 b2 b5 b8 Lx).tmps[4]?.getD undef = .pointer (some ⟨b2, 0, none⟩) := by kernel_rfl
          have e4 : (SwB22 x dl ad b1 b2 b5 b8 Lx).eval (.tmp 4) = .pointer (some ⟨b2, 0, none⟩) := by kernel_rfl
          exact i_val rfl (.pointer (some ⟨b2, 0, none⟩)) w' (by rfl) (by go_simp) ⟨by kernel_rfl, hw⟩
        | 1, _ =>
          have h0 := haft 0 (by decide)
          have e35 : (SwB22 x dl ad b1 b2 b5 b8 Lx).eval (.tmp 35) = .pointer (some ⟨b2, 0, none⟩) := by show (bif Lx 0 then _ else _) = _; rw [h0]; rfl
          have g35 : (SwB22 x dl ad b1 b2 b5 b8 Lx).tmps[35]?.getD undef = .pointer (some ⟨b2, 0, none⟩) := by show (bif Lx 0 then _ else _) = _; rw [h0]; rfl
          exact i_val rfl (.bool true) w' (by rfl) (by have q : w'.cell? ⟨b2, 0, none⟩ = some (.bool true) := Kb.cell (i := 1) hw rfl (by rfl); go_simp) ⟨by kernel_rfl, hw⟩
        | 2, _ =>
          have g4 : (SwB22 x dl ad b1 b2 b5 b8 Lx).tmps[4]?.getD undef = .pointer (some ⟨b2, 0, none⟩) := by kernel_rfl
          have e4 : (SwB22 x dl ad b1 b2 b5 b8 Lx).eval (.tmp 4) = .pointer (some ⟨b2, 0, none⟩) := by kernel_rfl
          exact i_val rfl (.pointer (some ⟨b2, 1, none⟩)) w' (by rfl) (by go_simp) ⟨by kernel_rfl, hw⟩
        | 3, _ =>
          have h2 := haft 2 (by decide)
          have e37 : (SwB22 x dl ad b1 b2 b5 b8 Lx).eval (.tmp 37) = .pointer (some ⟨b2, 1, none⟩) := by show (bif Lx 2 then _ else _) = _; rw [h2]; rfl
          have g37 : (SwB22 x dl ad b1 b2 b5 b8 Lx).tmps[37]?.getD undef = .pointer (some ⟨b2, 1, none⟩) := by show (bif Lx 2 then _ else _) = _; rw [h2]; rfl
          exact i_val rfl (.bool true) w' (by rfl) (by have q : w'.cell? ⟨b2, 1, none⟩ = some (.bool true) := Kb.cell (i := 1) hw rfl (by rfl); go_simp) ⟨by kernel_rfl, hw⟩
        | 4, _ =>
          have g7 : (SwB22 x dl ad b1 b2 b5 b8 Lx).tmps[7]?.getD undef = .pointer (some ⟨b5, 0, none⟩) := by kernel_rfl
          have e7 : (SwB22 x dl ad b1 b2 b5 b8 Lx).eval (.tmp 7) = .pointer (some ⟨b5, 0, none⟩) := by kernel_rfl
          exact i_val rfl (.pointer (some ⟨b5, 7, none⟩)) w' (by rfl) (by go_simp) ⟨by kernel_rfl, hw⟩
        | 5, _ =>
          have h1 := haft 1 (by decide)
          have e36 : (SwB22 x dl ad b1 b2 b5 b8 Lx).eval (.tmp 36) = .bool true := by show (bif Lx 1 then _ else _) = _; rw [h1]; rfl
          have g36 : (SwB22 x dl ad b1 b2 b5 b8 Lx).tmps[36]?.getD undef = .bool true := by show (bif Lx 1 then _ else _) = _; rw [h1]; rfl
          have h4 := haft 4 (by decide)
          have e39 : (SwB22 x dl ad b1 b2 b5 b8 Lx).eval (.tmp 39) = .pointer (some ⟨b5, 7, none⟩) := by show (bif Lx 4 then _ else _) = _; rw [h4]; rfl
          have g39 : (SwB22 x dl ad b1 b2 b5 b8 Lx).tmps[39]?.getD undef = .pointer (some ⟨b5, 7, none⟩) := by show (bif Lx 4 then _ else _) = _; rw [h4]; rfl
          exact i_wp rfl (by rfl) (wp_store_cell 4 _ _ rfl ⟨b5, 7, none⟩ (.bool true) e39 e36 (kb_run_set hw (i := 2) rfl 4 7 (.bool (bif Lx 5 then true else true)) (.bool true) (by rfl) (fun W h1 h2 => by go_simp)) ⟨by kernel_rfl, cast_blk (Kb.set (i := 2) hw rfl 7 (.bool true)) (by rfl)⟩)
        | 6, _ =>
          have g7 : (SwB22 x dl ad b1 b2 b5 b8 Lx).tmps[7]?.getD undef = .pointer (some ⟨b5, 0, none⟩) := by kernel_rfl
          have e7 : (SwB22 x dl ad b1 b2 b5 b8 Lx).eval (.tmp 7) = .pointer (some ⟨b5, 0, none⟩) := by kernel_rfl
          exact i_val rfl (.pointer (some ⟨b5, 6, none⟩)) w' (by rfl) (by go_simp) ⟨by kernel_rfl, hw⟩
        | 7, _ =>
          have h3 := haft 3 (by decide)
          have e38 : (SwB22 x dl ad b1 b2 b5 b8 Lx).eval (.tmp 38) = .bool true := by show (bif Lx 3 then _ else _) = _; rw [h3]; rfl
          have g38 : (SwB22 x dl ad b1 b2 b5 b8 Lx).tmps[38]?.getD undef = .bool true := by show (bif Lx 3 then _ else _) = _; rw [h3]; rfl
          have h6 := haft 6 (by decide)
          have e40 : (SwB22 x dl ad b1 b2 b5 b8 Lx).eval (.tmp 40) = .pointer (some ⟨b5, 6, none⟩) := by show (bif Lx 6 then _ else _) = _; rw [h6]; rfl
          have g40 : (SwB22 x dl ad b1 b2 b5 b8 Lx).tmps[40]?.getD undef = .pointer (some ⟨b5, 6, none⟩) := by show (bif Lx 6 then _ else _) = _; rw [h6]; rfl
          exact i_wp rfl (by rfl) (wp_store_cell 4 _ _ rfl ⟨b5, 6, none⟩ (.bool true) e40 e38 (kb_run_set hw (i := 2) rfl 4 6 (.bool (bif Lx 7 then true else true)) (.bool true) (by rfl) (fun W h1 h2 => by go_simp)) ⟨by kernel_rfl, cast_blk (Kb.set (i := 2) hw rfl 6 (.bool true)) (by rfl)⟩)
        | k + 8, h =>
          exfalso
          have h2 : k + 8 < 8 := h
          omega
      intro Lx ac w11 hI hall
      obtain ⟨rfl, hw⟩ := hI
      have hfr : SwB22 x dl ad b1 b2 b5 b8 Lx = { tmps := #[.agg (lpA x), .agg (#[.bool true, .bool true]), .int .i64 dl, .pointer (some ⟨b1, 0, none⟩), .pointer (some ⟨b2, 0, none⟩), undef, .bool false, .pointer (some ⟨b5, 0, none⟩), .pointer (some ⟨b8, 0, none⟩), .bool true, .bool true, .bool true, .bool false, .agg (lpA x), .agg (poA ⟨0, 0, false, 0, (IntKind.i64.wrap (Int.tmod (x.no : Nat) 16)), x.f4, true, true, x.f2, x.f3, (IntKind.i64.wrap (Int.tmod (x.n0 : Nat) 5)), (IntKind.i64.wrap (Int.tmod (x.n1 : Nat) 3)), (IntKind.i64.wrap (Int.tmod (x.n2 : Nat) 3)), (x.v.r : Nat), (x.v.c : Nat), (x.v.b : Nat), (x.v.p : Nat), x.k0, x.k1, x.k2, x.k3⟩), .agg (poA ⟨0, 0, false, 0, (IntKind.i64.wrap (Int.tmod (x.no : Nat) 16)), x.f4, true, true, x.f2, x.f3, (IntKind.i64.wrap (Int.tmod (x.n0 : Nat) 5)), (IntKind.i64.wrap (Int.tmod (x.n1 : Nat) 3)), (IntKind.i64.wrap (Int.tmod (x.n2 : Nat) 3)), (x.v.r : Nat), (x.v.c : Nat), (x.v.b : Nat), (x.v.p : Nat), x.k0, x.k1, x.k2, x.k3⟩), .pointer (some ⟨b2, 0, none⟩), .bool true, .pointer (some ⟨b2, 1, none⟩), .bool true, .int .i64 dl, .agg (cfA ⟨0, 0, 0, dl, 0, 0⟩), .agg (poA ⟨0, 0, false, 0, (IntKind.i64.wrap (Int.tmod (x.no : Nat) 16)), x.f4, true, true, x.f2, x.f3, (IntKind.i64.wrap (Int.tmod (x.n0 : Nat) 5)), (IntKind.i64.wrap (Int.tmod (x.n1 : Nat) 3)), (IntKind.i64.wrap (Int.tmod (x.n2 : Nat) 3)), (x.v.r : Nat), (x.v.c : Nat), (x.v.b : Nat), (x.v.p : Nat), x.k0, x.k1, x.k2, x.k3⟩), .pointer (some ⟨b5, 7, none⟩), .bool true, .bool true, .pointer (some ⟨b5, 6, none⟩), .bool true, .bool true, .pointer (some ⟨b2, 0, none⟩), .bool true, .bool true, .pointer (some ⟨b2, 1, none⟩), .bool true, .bool true, .pointer (some ⟨b2, 0, none⟩), .bool true, .pointer (some ⟨b2, 1, none⟩), .bool true, .pointer (some ⟨b5, 7, none⟩), .pointer (some ⟨b5, 6, none⟩), undef, undef, undef, undef, undef, undef, undef, undef, undef, undef, undef, undef, undef, undef, undef, undef, undef, undef, undef, undef, undef, undef, undef, undef], defers := [] } := by unfold SwB22; simp only [hall 0 (by decide), hall 1 (by decide), hall 2 (by decide), hall 3 (by decide), hall 4 (by decide), hall 6 (by decide), cond_true]
      rw [hfr]
      clear hfr
      have hL5 := hall 5 (by decide)
      have hL7 := hall 7 (by decide)
      simp only [hL5, hL7, cond_true] at hw
      have K11 := Lib.hid (show Kb w [(b1, lpA x, 55), (b2, #[.bool true, .bool true], 71), (b5, poA ⟨0, 0, false, 0, (IntKind.i64.wrap (Int.tmod (x.no : Nat) 16)), x.f4, true, true, x.f2, x.f3, (IntKind.i64.wrap (Int.tmod (x.n0 : Nat) 5)), (IntKind.i64.wrap (Int.tmod (x.n1 : Nat) 3)), (IntKind.i64.wrap (Int.tmod (x.n2 : Nat) 3)), (x.v.r : Nat), (x.v.c : Nat), (x.v.b : Nat), (x.v.p : Nat), x.k0, x.k1, x.k2, x.k3⟩, 62), (b8, poA ⟨0, 0, false, 0, (IntKind.i64.wrap (Int.tmod (x.no : Nat) 16)), x.f4, true, true, x.f2, x.f3, (IntKind.i64.wrap (Int.tmod (x.n0 : Nat) 5)), (IntKind.i64.wrap (Int.tmod (x.n1 : Nat) 3)), (IntKind.i64.wrap (Int.tmod (x.n2 : Nat) 3)), (x.v.r : Nat), (x.v.c : Nat), (x.v.b : Nat), (x.v.p : Nat), x.k0, x.k1, x.k2, x.k3⟩, 62)] w11 from hw)
      clear hw hall hL5 hL7
      go_upto_region 7 with fail
      refine wp_region_lit ?_
      refine wpList_val (.bool true) (by rfl) (by go_simp) ?_
      (try simp only [Act.put, List.getElem_toArray, List.getElem_cons_succ, List.getElem_cons_zero, List.setIfInBounds_toArray, List.set_cons_zero, List.set_cons_succ])
      refine wpList_val (.bool false) (by rfl) (by go_simp) ?_
      (try simp only [Act.put, List.getElem_toArray, List.getElem_cons_succ, List.getElem_cons_zero, List.setIfInBounds_toArray, List.set_cons_zero, List.set_cons_succ])
      refine wpList_val (.bool false) (by rfl) (by go_simp) ?_
      (try simp only [Act.put, List.getElem_toArray, List.getElem_cons_succ, List.getElem_cons_zero, List.setIfInBounds_toArray, List.set_cons_zero, List.set_cons_succ])
      refine wpList_val (.bool true) (by rfl) (by go_simp) ?_
      (try simp only [Act.put, List.getElem_toArray, List.getElem_cons_succ, List.getElem_cons_zero, List.setIfInBounds_toArray, List.set_cons_zero, List.set_cons_succ])
      refine wpList_val (.bool false) (by rfl) (by go_simp) ?_
      (try simp only [Act.put, List.getElem_toArray, List.getElem_cons_succ, List.getElem_cons_zero, List.setIfInBounds_toArray, List.set_cons_zero, List.set_cons_succ])
      refine wpList_val (.bool false) (by rfl) (run_pick_no (.tmp 43) (.const (.bool true)) (.tmp 45) _ rfl rfl rfl) ?_
      (try simp only [Act.put, List.getElem_toArray, List.getElem_cons_succ, List.getElem_cons_zero, List.setIfInBounds_toArray, List.set_cons_zero, List.set_cons_succ])
      refine wpList_nil ?_
      go_upto_region 12 with fail
      refine wp_region_lit ?_
      refine wpList_val (.agg (poA ⟨0, 0, false, 0, (IntKind.i64.wrap (Int.tmod (x.no : Nat) 16)), x.f4, true, true, x.f2, x.f3, (IntKind.i64.wrap (Int.tmod (x.n0 : Nat) 5)), (IntKind.i64.wrap (Int.tmod (x.n1 : Nat) 3)), (IntKind.i64.wrap (Int.tmod (x.n2 : Nat) 3)), (x.v.r : Nat), (x.v.c : Nat), (x.v.b : Nat), (x.v.p : Nat), x.k0, x.k1, x.k2, x.k3⟩)) (by rfl) (kb_all K11.out 3 rfl 62 _ rfl rfl Try.underlying62 rfl (size50)) ?_
      (try simp only [Act.put, List.getElem_toArray, List.getElem_cons_succ, List.getElem_cons_zero, List.setIfInBounds_toArray, List.set_cons_zero, List.set_cons_succ])
      refine wpList_val (.agg (poA ⟨0, 0, false, 0, (IntKind.i64.wrap (Int.tmod (x.no : Nat) 16)), x.f4, true, true, x.f2, x.f3, (IntKind.i64.wrap (Int.tmod (x.n0 : Nat) 5)), (IntKind.i64.wrap (Int.tmod (x.n1 : Nat) 3)), (IntKind.i64.wrap (Int.tmod (x.n2 : Nat) 3)), (x.v.r : Nat), (x.v.c : Nat), (x.v.b : Nat), (x.v.p : Nat), x.k0, x.k1, x.k2, x.k3⟩)) (by rfl) (kb_all K11.out 2 rfl 62 _ rfl rfl Try.underlying62 rfl (size50)) ?_
      (try simp only [Act.put, List.getElem_toArray, List.getElem_cons_succ, List.getElem_cons_zero, List.setIfInBounds_toArray, List.set_cons_zero, List.set_cons_succ])
      refine wpList_val (.bool true) (by rfl) (by have q := eq_po ⟨0, 0, false, 0, (IntKind.i64.wrap (Int.tmod (x.no : Nat) 16)), x.f4, true, true, x.f2, x.f3, (IntKind.i64.wrap (Int.tmod (x.n0 : Nat) 5)), (IntKind.i64.wrap (Int.tmod (x.n1 : Nat) 3)), (IntKind.i64.wrap (Int.tmod (x.n2 : Nat) 3)), (x.v.r : Nat), (x.v.c : Nat), (x.v.b : Nat), (x.v.p : Nat), x.k0, x.k1, x.k2, x.k3⟩; go_simp) ?_
      (try simp only [Act.put, List.getElem_toArray, List.getElem_cons_succ, List.getElem_cons_zero, List.setIfInBounds_toArray, List.set_cons_zero, List.set_cons_succ])
      refine wpList_val (.bool true) (by rfl) (by go_simp) ?_
      (try simp only [Act.put, List.getElem_toArray, List.getElem_cons_succ, List.getElem_cons_zero, List.setIfInBounds_toArray, List.set_cons_zero, List.set_cons_succ])
      refine wpList_nil ?_
      go_wp2_with fail
      go_ret
      exact ⟨ret_bool (rfl), K11.out.below⟩
end Go.Proofs.Ytojijeaofkndpaa
