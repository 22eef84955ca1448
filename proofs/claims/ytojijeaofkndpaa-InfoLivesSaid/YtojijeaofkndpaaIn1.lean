/- What is told anew; what a port takes. -/
import Derived.Test.YtojijeaofkndpaaIn0
namespace Go.Proofs.Ytojijeaofkndpaa
open Go.RowKit
attribute [local irreducible] wpQuiet wpList
set_option linter.unusedSimpArgs false
set_option linter.unusedVariables false

set_option maxRecDepth 100000 in
set_option maxHeartbeats 8000000 in
theorem anew_any (x : Po) (u v : Vc) (w : World) : Calls Try.prog 32 #[poV (poU x u), vcV v] w fun e w' => e = .returned (.bool (anewB x u v)) ∧ Below w.heap.size w w' := by
  unfold poU
  have K := Lib.hid (Kb.nil w)
  go_enter Try.func32, Try.ntmps32
  go_upto_region 0 with fail
  refine wp_region_lit ?_
  refine kb_box K.out 62 (.tmp 0) (poA ⟨x.p0, x.p1, x.p2, x.p3, x.p4, x.p5, x.p6, x.p7, x.p8, x.p9, x.p10, x.p11, x.p12, (u.r : Nat), (u.c : Nat), (u.b : Nat), (u.p : Nat), x.p17, x.p18, x.p19, x.p20⟩) rfl rfl (by rfl) ?_
  intro b1 w1 hb1 hk
  have K1 := Lib.hid (show Kb w [(b1, poA ⟨x.p0, x.p1, x.p2, x.p3, x.p4, x.p5, x.p6, x.p7, x.p8, x.p9, x.p10, x.p11, x.p12, (u.r : Nat), (u.c : Nat), (u.b : Nat), (u.p : Nat), x.p17, x.p18, x.p19, x.p20⟩, 62)] w1 from hk)
  clear hk hb1
  (try simp only [Act.put, List.getElem_toArray, List.getElem_cons_succ, List.getElem_cons_zero, List.setIfInBounds_toArray, List.set_cons_zero, List.set_cons_succ])
  refine kb_box K1.out 44 (.tmp 1) (vcA v) rfl rfl (by rfl) ?_
  intro b2 w2 hb2 hk
  have K2 := Lib.hid (show Kb w [(b1, poA ⟨x.p0, x.p1, x.p2, x.p3, x.p4, x.p5, x.p6, x.p7, x.p8, x.p9, x.p10, x.p11, x.p12, (u.r : Nat), (u.c : Nat), (u.b : Nat), (u.p : Nat), x.p17, x.p18, x.p19, x.p20⟩, 62), (b2, vcA v, 44)] w2 from hk)
  clear hk hb2
  (try simp only [Act.put, List.getElem_toArray, List.getElem_cons_succ, List.getElem_cons_zero, List.setIfInBounds_toArray, List.set_cons_zero, List.set_cons_succ])
  refine wpList_val (.bool false) (by rfl) (by go_simp) ?_
  (try simp only [Act.put, List.getElem_toArray, List.getElem_cons_succ, List.getElem_cons_zero, List.setIfInBounds_toArray, List.set_cons_zero, List.set_cons_succ])
  refine wpList_nil ?_
  go_upto_region 1 with fail
  by_cases h1 : x.p12 = 2
  case neg =>
    refine wp_region_lit ?_
    refine wpList_val (.pointer (some ⟨b1, 12, none⟩)) (by rfl) (by go_simp) ?_
    (try simp only [Act.put, List.getElem_toArray, List.getElem_cons_succ, List.getElem_cons_zero, List.setIfInBounds_toArray, List.set_cons_zero, List.set_cons_succ])
    refine wpList_val (.int .i64 x.p12) (by rfl) (by have q : w2.cell? ⟨b1, 12, none⟩ = some (.int .i64 x.p12) := K2.out.cell (i := 0) rfl (by rfl); go_simp) ?_
    (try simp only [Act.put, List.getElem_toArray, List.getElem_cons_succ, List.getElem_cons_zero, List.setIfInBounds_toArray, List.set_cons_zero, List.set_cons_succ])
    refine wpList_val (.bool false) (by rfl) (by have q := h1; go_simp) ?_
    (try simp only [Act.put, List.getElem_toArray, List.getElem_cons_succ, List.getElem_cons_zero, List.setIfInBounds_toArray, List.set_cons_zero, List.set_cons_succ])
    refine wpList_val (.bool false) (by rfl) (by go_simp) ?_
    (try simp only [Act.put, List.getElem_toArray, List.getElem_cons_succ, List.getElem_cons_zero, List.setIfInBounds_toArray, List.set_cons_zero, List.set_cons_succ])
    refine wpList_skip (by kernel_rfl) ?_
    (try simp only [Act.put, List.getElem_toArray, List.getElem_cons_succ, List.getElem_cons_zero, List.setIfInBounds_toArray, List.set_cons_zero, List.set_cons_succ])
    refine wpList_skip (by kernel_rfl) ?_
    (try simp only [Act.put, List.getElem_toArray, List.getElem_cons_succ, List.getElem_cons_zero, List.setIfInBounds_toArray, List.set_cons_zero, List.set_cons_succ])
    refine wpList_skip (by kernel_rfl) ?_
    (try simp only [Act.put, List.getElem_toArray, List.getElem_cons_succ, List.getElem_cons_zero, List.setIfInBounds_toArray, List.set_cons_zero, List.set_cons_succ])
    refine wpList_skip (by kernel_rfl) ?_
    (try simp only [Act.put, List.getElem_toArray, List.getElem_cons_succ, List.getElem_cons_zero, List.setIfInBounds_toArray, List.set_cons_zero, List.set_cons_succ])
    refine wpList_skip (by kernel_rfl) ?_
    (try simp only [Act.put, List.getElem_toArray, List.getElem_cons_succ, List.getElem_cons_zero, List.setIfInBounds_toArray, List.set_cons_zero, List.set_cons_succ])
    refine wpList_skip (by kernel_rfl) ?_
    (try simp only [Act.put, List.getElem_toArray, List.getElem_cons_succ, List.getElem_cons_zero, List.setIfInBounds_toArray, List.set_cons_zero, List.set_cons_succ])
    refine wpList_val (.bool false) (by rfl) (run_pick_no (.tmp 8) (.tmp 14) (.const (.bool false)) _ rfl rfl rfl) ?_
    (try simp only [Act.put, List.getElem_toArray, List.getElem_cons_succ, List.getElem_cons_zero, List.setIfInBounds_toArray, List.set_cons_zero, List.set_cons_succ])
    refine wpList_val (.bool false) (by rfl) (by go_simp) ?_
    (try simp only [Act.put, List.getElem_toArray, List.getElem_cons_succ, List.getElem_cons_zero, List.setIfInBounds_toArray, List.set_cons_zero, List.set_cons_succ])
    refine wpList_skip (by kernel_rfl) ?_
    (try simp only [Act.put, List.getElem_toArray, List.getElem_cons_succ, List.getElem_cons_zero, List.setIfInBounds_toArray, List.set_cons_zero, List.set_cons_succ])
    refine wpList_skip (by kernel_rfl) ?_
    (try simp only [Act.put, List.getElem_toArray, List.getElem_cons_succ, List.getElem_cons_zero, List.setIfInBounds_toArray, List.set_cons_zero, List.set_cons_succ])
    refine wpList_skip (by kernel_rfl) ?_
    (try simp only [Act.put, List.getElem_toArray, List.getElem_cons_succ, List.getElem_cons_zero, List.setIfInBounds_toArray, List.set_cons_zero, List.set_cons_succ])
    refine wpList_skip (by kernel_rfl) ?_
    (try simp only [Act.put, List.getElem_toArray, List.getElem_cons_succ, List.getElem_cons_zero, List.setIfInBounds_toArray, List.set_cons_zero, List.set_cons_succ])
    refine wpList_skip (by kernel_rfl) ?_
    (try simp only [Act.put, List.getElem_toArray, List.getElem_cons_succ, List.getElem_cons_zero, List.setIfInBounds_toArray, List.set_cons_zero, List.set_cons_succ])
    refine wpList_skip (by kernel_rfl) ?_
    (try simp only [Act.put, List.getElem_toArray, List.getElem_cons_succ, List.getElem_cons_zero, List.setIfInBounds_toArray, List.set_cons_zero, List.set_cons_succ])
    refine wpList_val (.bool false) (by rfl) (run_pick_no (.tmp 16) (.tmp 22) (.const (.bool false)) _ rfl rfl rfl) ?_
    (try simp only [Act.put, List.getElem_toArray, List.getElem_cons_succ, List.getElem_cons_zero, List.setIfInBounds_toArray, List.set_cons_zero, List.set_cons_succ])
    refine wpList_val (.bool false) (by rfl) (by go_simp) ?_
    (try simp only [Act.put, List.getElem_toArray, List.getElem_cons_succ, List.getElem_cons_zero, List.setIfInBounds_toArray, List.set_cons_zero, List.set_cons_succ])
    refine wpList_nil ?_
    go_wp2_with fail
    go_ret
    exact ⟨ret_bool (by simp [anewB, h1]), K2.out.below⟩
  case pos =>
    by_cases h2 : (v.b : Int) = (u.b : Int)
    case neg =>
      refine wp_region_lit ?_
      refine wpList_val (.pointer (some ⟨b1, 12, none⟩)) (by rfl) (by go_simp) ?_
      (try simp only [Act.put, List.getElem_toArray, List.getElem_cons_succ, List.getElem_cons_zero, List.setIfInBounds_toArray, List.set_cons_zero, List.set_cons_succ])
      refine wpList_val (.int .i64 x.p12) (by rfl) (by have q : w2.cell? ⟨b1, 12, none⟩ = some (.int .i64 x.p12) := K2.out.cell (i := 0) rfl (by rfl); go_simp) ?_
      (try simp only [Act.put, List.getElem_toArray, List.getElem_cons_succ, List.getElem_cons_zero, List.setIfInBounds_toArray, List.set_cons_zero, List.set_cons_succ])
      refine wpList_val (.bool true) (by rfl) (by have q := h1; go_simp) ?_
      (try simp only [Act.put, List.getElem_toArray, List.getElem_cons_succ, List.getElem_cons_zero, List.setIfInBounds_toArray, List.set_cons_zero, List.set_cons_succ])
      refine wpList_val (.bool true) (by rfl) (by go_simp) ?_
      (try simp only [Act.put, List.getElem_toArray, List.getElem_cons_succ, List.getElem_cons_zero, List.setIfInBounds_toArray, List.set_cons_zero, List.set_cons_succ])
      refine wpList_val (.pointer (some ⟨b2, 2, none⟩)) (by rfl) (by go_simp) ?_
      (try simp only [Act.put, List.getElem_toArray, List.getElem_cons_succ, List.getElem_cons_zero, List.setIfInBounds_toArray, List.set_cons_zero, List.set_cons_succ])
      refine wpList_val (.int .u64 (v.b : Nat)) (by rfl) (by have q : w2.cell? ⟨b2, 2, none⟩ = some (.int .u64 (v.b : Nat)) := K2.out.cell (i := 1) rfl (by rfl); go_simp) ?_
      (try simp only [Act.put, List.getElem_toArray, List.getElem_cons_succ, List.getElem_cons_zero, List.setIfInBounds_toArray, List.set_cons_zero, List.set_cons_succ])
      refine wpList_val (.pointer (some ⟨b1, 13, none⟩)) (by rfl) (by go_simp) ?_
      (try simp only [Act.put, List.getElem_toArray, List.getElem_cons_succ, List.getElem_cons_zero, List.setIfInBounds_toArray, List.set_cons_zero, List.set_cons_succ])
      refine wpList_val (.pointer (some ⟨b1, 15, none⟩)) (by rfl) (by go_simp) ?_
      (try simp only [Act.put, List.getElem_toArray, List.getElem_cons_succ, List.getElem_cons_zero, List.setIfInBounds_toArray, List.set_cons_zero, List.set_cons_succ])
      refine wpList_val (.int .u64 (u.b : Nat)) (by rfl) (by have q : w2.cell? ⟨b1, 15, none⟩ = some (.int .u64 (u.b : Nat)) := K2.out.cell (i := 0) rfl (by rfl); go_simp) ?_
      (try simp only [Act.put, List.getElem_toArray, List.getElem_cons_succ, List.getElem_cons_zero, List.setIfInBounds_toArray, List.set_cons_zero, List.set_cons_succ])
      refine wpList_val (.bool false) (by rfl) (by have q := h2; go_simp) ?_
      (try simp only [Act.put, List.getElem_toArray, List.getElem_cons_succ, List.getElem_cons_zero, List.setIfInBounds_toArray, List.set_cons_zero, List.set_cons_succ])
      refine wpList_val (.bool false) (by rfl) (run_pick_yes (.tmp 8) (.tmp 14) (.const (.bool false)) _ rfl rfl rfl) ?_
      (try simp only [Act.put, List.getElem_toArray, List.getElem_cons_succ, List.getElem_cons_zero, List.setIfInBounds_toArray, List.set_cons_zero, List.set_cons_succ])
      refine wpList_val (.bool false) (by rfl) (by go_simp) ?_
      (try simp only [Act.put, List.getElem_toArray, List.getElem_cons_succ, List.getElem_cons_zero, List.setIfInBounds_toArray, List.set_cons_zero, List.set_cons_succ])
      refine wpList_skip (by kernel_rfl) ?_
      (try simp only [Act.put, List.getElem_toArray, List.getElem_cons_succ, List.getElem_cons_zero, List.setIfInBounds_toArray, List.set_cons_zero, List.set_cons_succ])
      refine wpList_skip (by kernel_rfl) ?_
      (try simp only [Act.put, List.getElem_toArray, List.getElem_cons_succ, List.getElem_cons_zero, List.setIfInBounds_toArray, List.set_cons_zero, List.set_cons_succ])
      refine wpList_skip (by kernel_rfl) ?_
      (try simp only [Act.put, List.getElem_toArray, List.getElem_cons_succ, List.getElem_cons_zero, List.setIfInBounds_toArray, List.set_cons_zero, List.set_cons_succ])
      refine wpList_skip (by kernel_rfl) ?_
      (try simp only [Act.put, List.getElem_toArray, List.getElem_cons_succ, List.getElem_cons_zero, List.setIfInBounds_toArray, List.set_cons_zero, List.set_cons_succ])
      refine wpList_skip (by kernel_rfl) ?_
      (try simp only [Act.put, List.getElem_toArray, List.getElem_cons_succ, List.getElem_cons_zero, List.setIfInBounds_toArray, List.set_cons_zero, List.set_cons_succ])
      refine wpList_skip (by kernel_rfl) ?_
      (try simp only [Act.put, List.getElem_toArray, List.getElem_cons_succ, List.getElem_cons_zero, List.setIfInBounds_toArray, List.set_cons_zero, List.set_cons_succ])
      refine wpList_val (.bool false) (by rfl) (run_pick_no (.tmp 16) (.tmp 22) (.const (.bool false)) _ rfl rfl rfl) ?_
      (try simp only [Act.put, List.getElem_toArray, List.getElem_cons_succ, List.getElem_cons_zero, List.setIfInBounds_toArray, List.set_cons_zero, List.set_cons_succ])
      refine wpList_val (.bool false) (by rfl) (by go_simp) ?_
      (try simp only [Act.put, List.getElem_toArray, List.getElem_cons_succ, List.getElem_cons_zero, List.setIfInBounds_toArray, List.set_cons_zero, List.set_cons_succ])
      refine wpList_nil ?_
      go_wp2_with fail
      go_ret
      exact ⟨ret_bool (by simp [anewB, h1, show ¬ v.b = u.b by omega]), K2.out.below⟩
    case pos =>
      by_cases h3 : (v.p : Int) = (u.p : Int)
      case neg =>
        refine wp_region_lit ?_
        refine wpList_val (.pointer (some ⟨b1, 12, none⟩)) (by rfl) (by go_simp) ?_
        (try simp only [Act.put, List.getElem_toArray, List.getElem_cons_succ, List.getElem_cons_zero, List.setIfInBounds_toArray, List.set_cons_zero, List.set_cons_succ])
        refine wpList_val (.int .i64 x.p12) (by rfl) (by have q : w2.cell? ⟨b1, 12, none⟩ = some (.int .i64 x.p12) := K2.out.cell (i := 0) rfl (by rfl); go_simp) ?_
        (try simp only [Act.put, List.getElem_toArray, List.getElem_cons_succ, List.getElem_cons_zero, List.setIfInBounds_toArray, List.set_cons_zero, List.set_cons_succ])
        refine wpList_val (.bool true) (by rfl) (by have q := h1; go_simp) ?_
        (try simp only [Act.put, List.getElem_toArray, List.getElem_cons_succ, List.getElem_cons_zero, List.setIfInBounds_toArray, List.set_cons_zero, List.set_cons_succ])
        refine wpList_val (.bool true) (by rfl) (by go_simp) ?_
        (try simp only [Act.put, List.getElem_toArray, List.getElem_cons_succ, List.getElem_cons_zero, List.setIfInBounds_toArray, List.set_cons_zero, List.set_cons_succ])
        refine wpList_val (.pointer (some ⟨b2, 2, none⟩)) (by rfl) (by go_simp) ?_
        (try simp only [Act.put, List.getElem_toArray, List.getElem_cons_succ, List.getElem_cons_zero, List.setIfInBounds_toArray, List.set_cons_zero, List.set_cons_succ])
        refine wpList_val (.int .u64 (v.b : Nat)) (by rfl) (by have q : w2.cell? ⟨b2, 2, none⟩ = some (.int .u64 (v.b : Nat)) := K2.out.cell (i := 1) rfl (by rfl); go_simp) ?_
        (try simp only [Act.put, List.getElem_toArray, List.getElem_cons_succ, List.getElem_cons_zero, List.setIfInBounds_toArray, List.set_cons_zero, List.set_cons_succ])
        refine wpList_val (.pointer (some ⟨b1, 13, none⟩)) (by rfl) (by go_simp) ?_
        (try simp only [Act.put, List.getElem_toArray, List.getElem_cons_succ, List.getElem_cons_zero, List.setIfInBounds_toArray, List.set_cons_zero, List.set_cons_succ])
        refine wpList_val (.pointer (some ⟨b1, 15, none⟩)) (by rfl) (by go_simp) ?_
        (try simp only [Act.put, List.getElem_toArray, List.getElem_cons_succ, List.getElem_cons_zero, List.setIfInBounds_toArray, List.set_cons_zero, List.set_cons_succ])
        refine wpList_val (.int .u64 (u.b : Nat)) (by rfl) (by have q : w2.cell? ⟨b1, 15, none⟩ = some (.int .u64 (u.b : Nat)) := K2.out.cell (i := 0) rfl (by rfl); go_simp) ?_
        (try simp only [Act.put, List.getElem_toArray, List.getElem_cons_succ, List.getElem_cons_zero, List.setIfInBounds_toArray, List.set_cons_zero, List.set_cons_succ])
        refine wpList_val (.bool true) (by rfl) (by have q := h2; go_simp) ?_
        (try simp only [Act.put, List.getElem_toArray, List.getElem_cons_succ, List.getElem_cons_zero, List.setIfInBounds_toArray, List.set_cons_zero, List.set_cons_succ])
        refine wpList_val (.bool true) (by rfl) (run_pick_yes (.tmp 8) (.tmp 14) (.const (.bool false)) _ rfl rfl rfl) ?_
        (try simp only [Act.put, List.getElem_toArray, List.getElem_cons_succ, List.getElem_cons_zero, List.setIfInBounds_toArray, List.set_cons_zero, List.set_cons_succ])
        refine wpList_val (.bool true) (by rfl) (by go_simp) ?_
        (try simp only [Act.put, List.getElem_toArray, List.getElem_cons_succ, List.getElem_cons_zero, List.setIfInBounds_toArray, List.set_cons_zero, List.set_cons_succ])
        refine wpList_val (.pointer (some ⟨b2, 3, none⟩)) (by rfl) (by go_simp) ?_
        (try simp only [Act.put, List.getElem_toArray, List.getElem_cons_succ, List.getElem_cons_zero, List.setIfInBounds_toArray, List.set_cons_zero, List.set_cons_succ])
        refine wpList_val (.int .u16 (v.p : Nat)) (by rfl) (by have q : w2.cell? ⟨b2, 3, none⟩ = some (.int .u16 (v.p : Nat)) := K2.out.cell (i := 1) rfl (by rfl); go_simp) ?_
        (try simp only [Act.put, List.getElem_toArray, List.getElem_cons_succ, List.getElem_cons_zero, List.setIfInBounds_toArray, List.set_cons_zero, List.set_cons_succ])
        refine wpList_val (.pointer (some ⟨b1, 13, none⟩)) (by rfl) (by go_simp) ?_
        (try simp only [Act.put, List.getElem_toArray, List.getElem_cons_succ, List.getElem_cons_zero, List.setIfInBounds_toArray, List.set_cons_zero, List.set_cons_succ])
        refine wpList_val (.pointer (some ⟨b1, 16, none⟩)) (by rfl) (by go_simp) ?_
        (try simp only [Act.put, List.getElem_toArray, List.getElem_cons_succ, List.getElem_cons_zero, List.setIfInBounds_toArray, List.set_cons_zero, List.set_cons_succ])
        refine wpList_val (.int .u16 (u.p : Nat)) (by rfl) (by have q : w2.cell? ⟨b1, 16, none⟩ = some (.int .u16 (u.p : Nat)) := K2.out.cell (i := 0) rfl (by rfl); go_simp) ?_
        (try simp only [Act.put, List.getElem_toArray, List.getElem_cons_succ, List.getElem_cons_zero, List.setIfInBounds_toArray, List.set_cons_zero, List.set_cons_succ])
        refine wpList_val (.bool false) (by rfl) (by have q := h3; go_simp) ?_
        (try simp only [Act.put, List.getElem_toArray, List.getElem_cons_succ, List.getElem_cons_zero, List.setIfInBounds_toArray, List.set_cons_zero, List.set_cons_succ])
        refine wpList_val (.bool false) (by rfl) (run_pick_yes (.tmp 16) (.tmp 22) (.const (.bool false)) _ rfl rfl rfl) ?_
        (try simp only [Act.put, List.getElem_toArray, List.getElem_cons_succ, List.getElem_cons_zero, List.setIfInBounds_toArray, List.set_cons_zero, List.set_cons_succ])
        refine wpList_val (.bool false) (by rfl) (by go_simp) ?_
        (try simp only [Act.put, List.getElem_toArray, List.getElem_cons_succ, List.getElem_cons_zero, List.setIfInBounds_toArray, List.set_cons_zero, List.set_cons_succ])
        refine wpList_nil ?_
        go_wp2_with fail
        go_ret
        exact ⟨ret_bool (by simp [anewB, h1, show v.b = u.b by omega, show ¬ v.p = u.p by omega]), K2.out.below⟩
      case pos =>
        refine wp_region_lit ?_
        refine wpList_val (.pointer (some ⟨b1, 12, none⟩)) (by rfl) (by go_simp) ?_
        (try simp only [Act.put, List.getElem_toArray, List.getElem_cons_succ, List.getElem_cons_zero, List.setIfInBounds_toArray, List.set_cons_zero, List.set_cons_succ])
        refine wpList_val (.int .i64 x.p12) (by rfl) (by have q : w2.cell? ⟨b1, 12, none⟩ = some (.int .i64 x.p12) := K2.out.cell (i := 0) rfl (by rfl); go_simp) ?_
        (try simp only [Act.put, List.getElem_toArray, List.getElem_cons_succ, List.getElem_cons_zero, List.setIfInBounds_toArray, List.set_cons_zero, List.set_cons_succ])
        refine wpList_val (.bool true) (by rfl) (by have q := h1; go_simp) ?_
        (try simp only [Act.put, List.getElem_toArray, List.getElem_cons_succ, List.getElem_cons_zero, List.setIfInBounds_toArray, List.set_cons_zero, List.set_cons_succ])
        refine wpList_val (.bool true) (by rfl) (by go_simp) ?_
        (try simp only [Act.put, List.getElem_toArray, List.getElem_cons_succ, List.getElem_cons_zero, List.setIfInBounds_toArray, List.set_cons_zero, List.set_cons_succ])
        refine wpList_val (.pointer (some ⟨b2, 2, none⟩)) (by rfl) (by go_simp) ?_
        (try simp only [Act.put, List.getElem_toArray, List.getElem_cons_succ, List.getElem_cons_zero, List.setIfInBounds_toArray, List.set_cons_zero, List.set_cons_succ])
        refine wpList_val (.int .u64 (v.b : Nat)) (by rfl) (by have q : w2.cell? ⟨b2, 2, none⟩ = some (.int .u64 (v.b : Nat)) := K2.out.cell (i := 1) rfl (by rfl); go_simp) ?_
        (try simp only [Act.put, List.getElem_toArray, List.getElem_cons_succ, List.getElem_cons_zero, List.setIfInBounds_toArray, List.set_cons_zero, List.set_cons_succ])
        refine wpList_val (.pointer (some ⟨b1, 13, none⟩)) (by rfl) (by go_simp) ?_
        (try simp only [Act.put, List.getElem_toArray, List.getElem_cons_succ, List.getElem_cons_zero, List.setIfInBounds_toArray, List.set_cons_zero, List.set_cons_succ])
        refine wpList_val (.pointer (some ⟨b1, 15, none⟩)) (by rfl) (by go_simp) ?_
        (try simp only [Act.put, List.getElem_toArray, List.getElem_cons_succ, List.getElem_cons_zero, List.setIfInBounds_toArray, List.set_cons_zero, List.set_cons_succ])
        refine wpList_val (.int .u64 (u.b : Nat)) (by rfl) (by have q : w2.cell? ⟨b1, 15, none⟩ = some (.int .u64 (u.b : Nat)) := K2.out.cell (i := 0) rfl (by rfl); go_simp) ?_
        (try simp only [Act.put, List.getElem_toArray, List.getElem_cons_succ, List.getElem_cons_zero, List.setIfInBounds_toArray, List.set_cons_zero, List.set_cons_succ])
        refine wpList_val (.bool true) (by rfl) (by have q := h2; go_simp) ?_
        (try simp only [Act.put, List.getElem_toArray, List.getElem_cons_succ, List.getElem_cons_zero, List.setIfInBounds_toArray, List.set_cons_zero, List.set_cons_succ])
        refine wpList_val (.bool true) (by rfl) (run_pick_yes (.tmp 8) (.tmp 14) (.const (.bool false)) _ rfl rfl rfl) ?_
        (try simp only [Act.put, List.getElem_toArray, List.getElem_cons_succ, List.getElem_cons_zero, List.setIfInBounds_toArray, List.set_cons_zero, List.set_cons_succ])
        refine wpList_val (.bool true) (by rfl) (by go_simp) ?_
        (try simp only [Act.put, List.getElem_toArray, List.getElem_cons_succ, List.getElem_cons_zero, List.setIfInBounds_toArray, List.set_cons_zero, List.set_cons_succ])
        refine wpList_val (.pointer (some ⟨b2, 3, none⟩)) (by rfl) (by go_simp) ?_
        (try simp only [Act.put, List.getElem_toArray, List.getElem_cons_succ, List.getElem_cons_zero, List.setIfInBounds_toArray, List.set_cons_zero, List.set_cons_succ])
        refine wpList_val (.int .u16 (v.p : Nat)) (by rfl) (by have q : w2.cell? ⟨b2, 3, none⟩ = some (.int .u16 (v.p : Nat)) := K2.out.cell (i := 1) rfl (by rfl); go_simp) ?_
        (try simp only [Act.put, List.getElem_toArray, List.getElem_cons_succ, List.getElem_cons_zero, List.setIfInBounds_toArray, List.set_cons_zero, List.set_cons_succ])
        refine wpList_val (.pointer (some ⟨b1, 13, none⟩)) (by rfl) (by go_simp) ?_
        (try simp only [Act.put, List.getElem_toArray, List.getElem_cons_succ, List.getElem_cons_zero, List.setIfInBounds_toArray, List.set_cons_zero, List.set_cons_succ])
        refine wpList_val (.pointer (some ⟨b1, 16, none⟩)) (by rfl) (by go_simp) ?_
        (try simp only [Act.put, List.getElem_toArray, List.getElem_cons_succ, List.getElem_cons_zero, List.setIfInBounds_toArray, List.set_cons_zero, List.set_cons_succ])
        refine wpList_val (.int .u16 (u.p : Nat)) (by rfl) (by have q : w2.cell? ⟨b1, 16, none⟩ = some (.int .u16 (u.p : Nat)) := K2.out.cell (i := 0) rfl (by rfl); go_simp) ?_
        (try simp only [Act.put, List.getElem_toArray, List.getElem_cons_succ, List.getElem_cons_zero, List.setIfInBounds_toArray, List.set_cons_zero, List.set_cons_succ])
        refine wpList_val (.bool true) (by rfl) (by have q := h3; go_simp) ?_
        (try simp only [Act.put, List.getElem_toArray, List.getElem_cons_succ, List.getElem_cons_zero, List.setIfInBounds_toArray, List.set_cons_zero, List.set_cons_succ])
        refine wpList_val (.bool true) (by rfl) (run_pick_yes (.tmp 16) (.tmp 22) (.const (.bool false)) _ rfl rfl rfl) ?_
        (try simp only [Act.put, List.getElem_toArray, List.getElem_cons_succ, List.getElem_cons_zero, List.setIfInBounds_toArray, List.set_cons_zero, List.set_cons_succ])
        refine wpList_val (.bool true) (by rfl) (by go_simp) ?_
        (try simp only [Act.put, List.getElem_toArray, List.getElem_cons_succ, List.getElem_cons_zero, List.setIfInBounds_toArray, List.set_cons_zero, List.set_cons_succ])
        refine wpList_nil ?_
        go_wp2_with fail
        go_ret
        exact ⟨ret_bool (by simp [anewB, h1, show v.b = u.b by omega, show v.p = u.p by omega]), K2.out.below⟩
set_option maxRecDepth 100000 in
set_option maxHeartbeats 8000000 in
theorem takes_any (x : Po) (u v : Vc) (w : World) : Calls Try.prog 28 #[poV (poU x u), vcV v] w fun e w' => e = .returned (.bool (takesB x u v)) ∧ Below w.heap.size w w' := by
  have CA := Lib.hid (fun w => anew_any x u v w)
  have CB := Lib.hid (fun w => better_any v u w)
  unfold poU at CA ⊢
  cases ha : anewB x u v
  case false =>
    cases hb : lessV v u
    case false =>
      have K := Lib.hid (Kb.nil w)
      go_enter Try.func28, Try.ntmps28
      go_upto_region 0 with fail
      refine wp_region_lit ?_
      refine kb_box K.out 62 (.tmp 0) (poA ⟨x.p0, x.p1, x.p2, x.p3, x.p4, x.p5, x.p6, x.p7, x.p8, x.p9, x.p10, x.p11, x.p12, (u.r : Nat), (u.c : Nat), (u.b : Nat), (u.p : Nat), x.p17, x.p18, x.p19, x.p20⟩) rfl rfl (by rfl) ?_
      intro b1 w1 hb1 hk
      have K1 := Lib.hid (show Kb w [(b1, poA ⟨x.p0, x.p1, x.p2, x.p3, x.p4, x.p5, x.p6, x.p7, x.p8, x.p9, x.p10, x.p11, x.p12, (u.r : Nat), (u.c : Nat), (u.b : Nat), (u.p : Nat), x.p17, x.p18, x.p19, x.p20⟩, 62)] w1 from hk)
      clear hk hb1
      (try simp only [Act.put, List.getElem_toArray, List.getElem_cons_succ, List.getElem_cons_zero, List.setIfInBounds_toArray, List.set_cons_zero, List.set_cons_succ])
      refine kb_box K1.out 44 (.tmp 1) (vcA v) rfl rfl (by rfl) ?_
      intro b2 w2 hb2 hk
      have K2 := Lib.hid (show Kb w [(b1, poA ⟨x.p0, x.p1, x.p2, x.p3, x.p4, x.p5, x.p6, x.p7, x.p8, x.p9, x.p10, x.p11, x.p12, (u.r : Nat), (u.c : Nat), (u.b : Nat), (u.p : Nat), x.p17, x.p18, x.p19, x.p20⟩, 62), (b2, vcA v, 44)] w2 from hk)
      clear hk hb2
      (try simp only [Act.put, List.getElem_toArray, List.getElem_cons_succ, List.getElem_cons_zero, List.setIfInBounds_toArray, List.set_cons_zero, List.set_cons_succ])
      refine wpList_val (.bool false) (by rfl) (by go_simp) ?_
      (try simp only [Act.put, List.getElem_toArray, List.getElem_cons_succ, List.getElem_cons_zero, List.setIfInBounds_toArray, List.set_cons_zero, List.set_cons_succ])
      refine wpList_nil ?_
      go_upto_region 1 with fail
      by_cases h1 : x.p12 = 0
      case neg =>
        refine wp_region_lit ?_
        refine wpList_val (.agg (poA ⟨x.p0, x.p1, x.p2, x.p3, x.p4, x.p5, x.p6, x.p7, x.p8, x.p9, x.p10, x.p11, x.p12, (u.r : Nat), (u.c : Nat), (u.b : Nat), (u.p : Nat), x.p17, x.p18, x.p19, x.p20⟩)) (by rfl) (kb_all K2.out 0 rfl 62 _ rfl rfl Try.underlying62 rfl (size50)) ?_
        (try simp only [Act.put, List.getElem_toArray, List.getElem_cons_succ, List.getElem_cons_zero, List.setIfInBounds_toArray, List.set_cons_zero, List.set_cons_succ])
        refine wpList_val (.agg (vcA v)) (by rfl) (kb_all K2.out 1 rfl 44 _ rfl rfl Try.underlying44 rfl (sizeV)) ?_
        (try simp only [Act.put, List.getElem_toArray, List.getElem_cons_succ, List.getElem_cons_zero, List.setIfInBounds_toArray, List.set_cons_zero, List.set_cons_succ])
        refine kb_call K2.out 32 #[.agg (poA ⟨x.p0, x.p1, x.p2, x.p3, x.p4, x.p5, x.p6, x.p7, x.p8, x.p9, x.p10, x.p11, x.p12, (u.r : Nat), (u.c : Nat), (u.b : Nat), (u.p : Nat), x.p17, x.p18, x.p19, x.p20⟩), .agg (vcA v)] (.bool false) (by rfl) (by go_simp) (by have q := CA.out w2; rw [ha] at q; exact q) ?_
        intro w3 hk
        have K3 := Lib.hid (show Kb w [(b1, poA ⟨x.p0, x.p1, x.p2, x.p3, x.p4, x.p5, x.p6, x.p7, x.p8, x.p9, x.p10, x.p11, x.p12, (u.r : Nat), (u.c : Nat), (u.b : Nat), (u.p : Nat), x.p17, x.p18, x.p19, x.p20⟩, 62), (b2, vcA v, 44)] w3 from hk)
        clear hk
        (try simp only [Act.put, List.getElem_toArray, List.getElem_cons_succ, List.getElem_cons_zero, List.setIfInBounds_toArray, List.set_cons_zero, List.set_cons_succ])
        refine wpList_val (.bool false) (by rfl) (by go_simp) ?_
        (try simp only [Act.put, List.getElem_toArray, List.getElem_cons_succ, List.getElem_cons_zero, List.setIfInBounds_toArray, List.set_cons_zero, List.set_cons_succ])
        refine wpList_val (.agg (vcA v)) (by rfl) (kb_all K3.out 1 rfl 44 _ rfl rfl Try.underlying44 rfl (sizeV)) ?_
        (try simp only [Act.put, List.getElem_toArray, List.getElem_cons_succ, List.getElem_cons_zero, List.setIfInBounds_toArray, List.set_cons_zero, List.set_cons_succ])
        refine wpList_val (.pointer (some ⟨b1, 13, none⟩)) (by rfl) (by go_simp) ?_
        (try simp only [Act.put, List.getElem_toArray, List.getElem_cons_succ, List.getElem_cons_zero, List.setIfInBounds_toArray, List.set_cons_zero, List.set_cons_succ])
        refine wpList_val (.agg (#[.int .u64 (u.r : Nat), .int .u32 (u.c : Nat), .int .u64 (u.b : Nat), .int .u16 (u.p : Nat)])) (by rfl) (kb_part K3.out 0 rfl 44 _ 13 (#[.int .u64 (u.r : Nat), .int .u32 (u.c : Nat), .int .u64 (u.b : Nat), .int .u16 (u.p : Nat)]).toList rfl rfl (part_of (by kernel_rfl)) Try.underlying44 rfl (sizeV)) ?_
        (try simp only [Act.put, List.getElem_toArray, List.getElem_cons_succ, List.getElem_cons_zero, List.setIfInBounds_toArray, List.set_cons_zero, List.set_cons_succ])
        refine kb_call K3.out 13 #[.agg (vcA v), .agg (#[.int .u64 (u.r : Nat), .int .u32 (u.c : Nat), .int .u64 (u.b : Nat), .int .u16 (u.p : Nat)])] (.bool false) (by rfl) (by go_simp) (by have q := CB.out w3; rw [hb] at q; exact q) ?_
        intro w4 hk
        have K4 := Lib.hid (show Kb w [(b1, poA ⟨x.p0, x.p1, x.p2, x.p3, x.p4, x.p5, x.p6, x.p7, x.p8, x.p9, x.p10, x.p11, x.p12, (u.r : Nat), (u.c : Nat), (u.b : Nat), (u.p : Nat), x.p17, x.p18, x.p19, x.p20⟩, 62), (b2, vcA v, 44)] w4 from hk)
        clear hk
        (try simp only [Act.put, List.getElem_toArray, List.getElem_cons_succ, List.getElem_cons_zero, List.setIfInBounds_toArray, List.set_cons_zero, List.set_cons_succ])
        refine wpList_val (.bool false) (by rfl) (run_pick_no (.tmp 8) (.const (.bool true)) (.tmp 12) _ rfl rfl rfl) ?_
        (try simp only [Act.put, List.getElem_toArray, List.getElem_cons_succ, List.getElem_cons_zero, List.setIfInBounds_toArray, List.set_cons_zero, List.set_cons_succ])
        refine wpList_val (.bool false) (by rfl) (by go_simp) ?_
        (try simp only [Act.put, List.getElem_toArray, List.getElem_cons_succ, List.getElem_cons_zero, List.setIfInBounds_toArray, List.set_cons_zero, List.set_cons_succ])
        refine wpList_val (.pointer (some ⟨b1, 12, none⟩)) (by rfl) (by go_simp) ?_
        (try simp only [Act.put, List.getElem_toArray, List.getElem_cons_succ, List.getElem_cons_zero, List.setIfInBounds_toArray, List.set_cons_zero, List.set_cons_succ])
        refine wpList_val (.int .i64 x.p12) (by rfl) (by have q : w4.cell? ⟨b1, 12, none⟩ = some (.int .i64 x.p12) := K4.out.cell (i := 0) rfl (by rfl); go_simp) ?_
        (try simp only [Act.put, List.getElem_toArray, List.getElem_cons_succ, List.getElem_cons_zero, List.setIfInBounds_toArray, List.set_cons_zero, List.set_cons_succ])
        refine wpList_val (.bool false) (by rfl) (by have q := h1; go_simp) ?_
        (try simp only [Act.put, List.getElem_toArray, List.getElem_cons_succ, List.getElem_cons_zero, List.setIfInBounds_toArray, List.set_cons_zero, List.set_cons_succ])
        refine wpList_val (.bool false) (by rfl) (run_pick_no (.tmp 14) (.const (.bool true)) (.tmp 17) _ rfl rfl rfl) ?_
        (try simp only [Act.put, List.getElem_toArray, List.getElem_cons_succ, List.getElem_cons_zero, List.setIfInBounds_toArray, List.set_cons_zero, List.set_cons_succ])
        refine wpList_val (.bool false) (by rfl) (by go_simp) ?_
        (try simp only [Act.put, List.getElem_toArray, List.getElem_cons_succ, List.getElem_cons_zero, List.setIfInBounds_toArray, List.set_cons_zero, List.set_cons_succ])
        refine wpList_nil ?_
        go_wp2_with fail
        go_ret
        exact ⟨ret_bool (by simp [takesB, ha, hb, h1]), K4.out.below⟩
      case pos =>
        refine wp_region_lit ?_
        refine wpList_val (.agg (poA ⟨x.p0, x.p1, x.p2, x.p3, x.p4, x.p5, x.p6, x.p7, x.p8, x.p9, x.p10, x.p11, x.p12, (u.r : Nat), (u.c : Nat), (u.b : Nat), (u.p : Nat), x.p17, x.p18, x.p19, x.p20⟩)) (by rfl) (kb_all K2.out 0 rfl 62 _ rfl rfl Try.underlying62 rfl (size50)) ?_
        (try simp only [Act.put, List.getElem_toArray, List.getElem_cons_succ, List.getElem_cons_zero, List.setIfInBounds_toArray, List.set_cons_zero, List.set_cons_succ])
        refine wpList_val (.agg (vcA v)) (by rfl) (kb_all K2.out 1 rfl 44 _ rfl rfl Try.underlying44 rfl (sizeV)) ?_
        (try simp only [Act.put, List.getElem_toArray, List.getElem_cons_succ, List.getElem_cons_zero, List.setIfInBounds_toArray, List.set_cons_zero, List.set_cons_succ])
        refine kb_call K2.out 32 #[.agg (poA ⟨x.p0, x.p1, x.p2, x.p3, x.p4, x.p5, x.p6, x.p7, x.p8, x.p9, x.p10, x.p11, x.p12, (u.r : Nat), (u.c : Nat), (u.b : Nat), (u.p : Nat), x.p17, x.p18, x.p19, x.p20⟩), .agg (vcA v)] (.bool false) (by rfl) (by go_simp) (by have q := CA.out w2; rw [ha] at q; exact q) ?_
        intro w3 hk
        have K3 := Lib.hid (show Kb w [(b1, poA ⟨x.p0, x.p1, x.p2, x.p3, x.p4, x.p5, x.p6, x.p7, x.p8, x.p9, x.p10, x.p11, x.p12, (u.r : Nat), (u.c : Nat), (u.b : Nat), (u.p : Nat), x.p17, x.p18, x.p19, x.p20⟩, 62), (b2, vcA v, 44)] w3 from hk)
        clear hk
        (try simp only [Act.put, List.getElem_toArray, List.getElem_cons_succ, List.getElem_cons_zero, List.setIfInBounds_toArray, List.set_cons_zero, List.set_cons_succ])
        refine wpList_val (.bool false) (by rfl) (by go_simp) ?_
        (try simp only [Act.put, List.getElem_toArray, List.getElem_cons_succ, List.getElem_cons_zero, List.setIfInBounds_toArray, List.set_cons_zero, List.set_cons_succ])
        refine wpList_val (.agg (vcA v)) (by rfl) (kb_all K3.out 1 rfl 44 _ rfl rfl Try.underlying44 rfl (sizeV)) ?_
        (try simp only [Act.put, List.getElem_toArray, List.getElem_cons_succ, List.getElem_cons_zero, List.setIfInBounds_toArray, List.set_cons_zero, List.set_cons_succ])
        refine wpList_val (.pointer (some ⟨b1, 13, none⟩)) (by rfl) (by go_simp) ?_
        (try simp only [Act.put, List.getElem_toArray, List.getElem_cons_succ, List.getElem_cons_zero, List.setIfInBounds_toArray, List.set_cons_zero, List.set_cons_succ])
        refine wpList_val (.agg (#[.int .u64 (u.r : Nat), .int .u32 (u.c : Nat), .int .u64 (u.b : Nat), .int .u16 (u.p : Nat)])) (by rfl) (kb_part K3.out 0 rfl 44 _ 13 (#[.int .u64 (u.r : Nat), .int .u32 (u.c : Nat), .int .u64 (u.b : Nat), .int .u16 (u.p : Nat)]).toList rfl rfl (part_of (by kernel_rfl)) Try.underlying44 rfl (sizeV)) ?_
        (try simp only [Act.put, List.getElem_toArray, List.getElem_cons_succ, List.getElem_cons_zero, List.setIfInBounds_toArray, List.set_cons_zero, List.set_cons_succ])
        refine kb_call K3.out 13 #[.agg (vcA v), .agg (#[.int .u64 (u.r : Nat), .int .u32 (u.c : Nat), .int .u64 (u.b : Nat), .int .u16 (u.p : Nat)])] (.bool false) (by rfl) (by go_simp) (by have q := CB.out w3; rw [hb] at q; exact q) ?_
        intro w4 hk
        have K4 := Lib.hid (show Kb w [(b1, poA ⟨x.p0, x.p1, x.p2, x.p3, x.p4, x.p5, x.p6, x.p7, x.p8, x.p9, x.p10, x.p11, x.p12, (u.r : Nat), (u.c : Nat), (u.b : Nat), (u.p : Nat), x.p17, x.p18, x.p19, x.p20⟩, 62), (b2, vcA v, 44)] w4 from hk)
        clear hk
        (try simp only [Act.put, List.getElem_toArray, List.getElem_cons_succ, List.getElem_cons_zero, List.setIfInBounds_toArray, List.set_cons_zero, List.set_cons_succ])
        refine wpList_val (.bool false) (by rfl) (run_pick_no (.tmp 8) (.const (.bool true)) (.tmp 12) _ rfl rfl rfl) ?_
        (try simp only [Act.put, List.getElem_toArray, List.getElem_cons_succ, List.getElem_cons_zero, List.setIfInBounds_toArray, List.set_cons_zero, List.set_cons_succ])
        refine wpList_val (.bool false) (by rfl) (by go_simp) ?_
        (try simp only [Act.put, List.getElem_toArray, List.getElem_cons_succ, List.getElem_cons_zero, List.setIfInBounds_toArray, List.set_cons_zero, List.set_cons_succ])
        refine wpList_val (.pointer (some ⟨b1, 12, none⟩)) (by rfl) (by go_simp) ?_
        (try simp only [Act.put, List.getElem_toArray, List.getElem_cons_succ, List.getElem_cons_zero, List.setIfInBounds_toArray, List.set_cons_zero, List.set_cons_succ])
        refine wpList_val (.int .i64 x.p12) (by rfl) (by have q : w4.cell? ⟨b1, 12, none⟩ = some (.int .i64 x.p12) := K4.out.cell (i := 0) rfl (by rfl); go_simp) ?_
        (try simp only [Act.put, List.getElem_toArray, List.getElem_cons_succ, List.getElem_cons_zero, List.setIfInBounds_toArray, List.set_cons_zero, List.set_cons_succ])
        refine wpList_val (.bool true) (by rfl) (by have q := h1; go_simp) ?_
        (try simp only [Act.put, List.getElem_toArray, List.getElem_cons_succ, List.getElem_cons_zero, List.setIfInBounds_toArray, List.set_cons_zero, List.set_cons_succ])
        refine wpList_val (.bool true) (by rfl) (run_pick_no (.tmp 14) (.const (.bool true)) (.tmp 17) _ rfl rfl rfl) ?_
        (try simp only [Act.put, List.getElem_toArray, List.getElem_cons_succ, List.getElem_cons_zero, List.setIfInBounds_toArray, List.set_cons_zero, List.set_cons_succ])
        refine wpList_val (.bool true) (by rfl) (by go_simp) ?_
        (try simp only [Act.put, List.getElem_toArray, List.getElem_cons_succ, List.getElem_cons_zero, List.setIfInBounds_toArray, List.set_cons_zero, List.set_cons_succ])
        refine wpList_nil ?_
        go_wp2_with fail
        go_ret
        exact ⟨ret_bool (by simp [takesB, ha, hb, h1]), K4.out.below⟩
    case true =>
      have K := Lib.hid (Kb.nil w)
      go_enter Try.func28, Try.ntmps28
      go_upto_region 0 with fail
      refine wp_region_lit ?_
      refine kb_box K.out 62 (.tmp 0) (poA ⟨x.p0, x.p1, x.p2, x.p3, x.p4, x.p5, x.p6, x.p7, x.p8, x.p9, x.p10, x.p11, x.p12, (u.r : Nat), (u.c : Nat), (u.b : Nat), (u.p : Nat), x.p17, x.p18, x.p19, x.p20⟩) rfl rfl (by rfl) ?_
      intro b1 w1 hb1 hk
      have K1 := Lib.hid (show Kb w [(b1, poA ⟨x.p0, x.p1, x.p2, x.p3, x.p4, x.p5, x.p6, x.p7, x.p8, x.p9, x.p10, x.p11, x.p12, (u.r : Nat), (u.c : Nat), (u.b : Nat), (u.p : Nat), x.p17, x.p18, x.p19, x.p20⟩, 62)] w1 from hk)
      clear hk hb1
      (try simp only [Act.put, List.getElem_toArray, List.getElem_cons_succ, List.getElem_cons_zero, List.setIfInBounds_toArray, List.set_cons_zero, List.set_cons_succ])
      refine kb_box K1.out 44 (.tmp 1) (vcA v) rfl rfl (by rfl) ?_
      intro b2 w2 hb2 hk
      have K2 := Lib.hid (show Kb w [(b1, poA ⟨x.p0, x.p1, x.p2, x.p3, x.p4, x.p5, x.p6, x.p7, x.p8, x.p9, x.p10, x.p11, x.p12, (u.r : Nat), (u.c : Nat), (u.b : Nat), (u.p : Nat), x.p17, x.p18, x.p19, x.p20⟩, 62), (b2, vcA v, 44)] w2 from hk)
      clear hk hb2
      (try simp only [Act.put, List.getElem_toArray, List.getElem_cons_succ, List.getElem_cons_zero, List.setIfInBounds_toArray, List.set_cons_zero, List.set_cons_succ])
      refine wpList_val (.bool false) (by rfl) (by go_simp) ?_
      (try simp only [Act.put, List.getElem_toArray, List.getElem_cons_succ, List.getElem_cons_zero, List.setIfInBounds_toArray, List.set_cons_zero, List.set_cons_succ])
      refine wpList_nil ?_
      go_upto_region 1 with fail
      refine wp_region_lit ?_
      refine wpList_val (.agg (poA ⟨x.p0, x.p1, x.p2, x.p3, x.p4, x.p5, x.p6, x.p7, x.p8, x.p9, x.p10, x.p11, x.p12, (u.r : Nat), (u.c : Nat), (u.b : Nat), (u.p : Nat), x.p17, x.p18, x.p19, x.p20⟩)) (by rfl) (kb_all K2.out 0 rfl 62 _ rfl rfl Try.underlying62 rfl (size50)) ?_
      (try simp only [Act.put, List.getElem_toArray, List.getElem_cons_succ, List.getElem_cons_zero, List.setIfInBounds_toArray, List.set_cons_zero, List.set_cons_succ])
      refine wpList_val (.agg (vcA v)) (by rfl) (kb_all K2.out 1 rfl 44 _ rfl rfl Try.underlying44 rfl (sizeV)) ?_
      (try simp only [Act.put, List.getElem_toArray, List.getElem_cons_succ, List.getElem_cons_zero, List.setIfInBounds_toArray, List.set_cons_zero, List.set_cons_succ])
      refine kb_call K2.out 32 #[.agg (poA ⟨x.p0, x.p1, x.p2, x.p3, x.p4, x.p5, x.p6, x.p7, x.p8, x.p9, x.p10, x.p11, x.p12, (u.r : Nat), (u.c : Nat), (u.b : Nat), (u.p : Nat), x.p17, x.p18, x.p19, x.p20⟩), .agg (vcA v)] (.bool false) (by rfl) (by go_simp) (by have q := CA.out w2; rw [ha] at q; exact q) ?_
      intro w3 hk
      have K3 := Lib.hid (show Kb w [(b1, poA ⟨x.p0, x.p1, x.p2, x.p3, x.p4, x.p5, x.p6, x.p7, x.p8, x.p9, x.p10, x.p11, x.p12, (u.r : Nat), (u.c : Nat), (u.b : Nat), (u.p : Nat), x.p17, x.p18, x.p19, x.p20⟩, 62), (b2, vcA v, 44)] w3 from hk)
      clear hk
      (try simp only [Act.put, List.getElem_toArray, List.getElem_cons_succ, List.getElem_cons_zero, List.setIfInBounds_toArray, List.set_cons_zero, List.set_cons_succ])
      refine wpList_val (.bool false) (by rfl) (by go_simp) ?_
      (try simp only [Act.put, List.getElem_toArray, List.getElem_cons_succ, List.getElem_cons_zero, List.setIfInBounds_toArray, List.set_cons_zero, List.set_cons_succ])
      refine wpList_val (.agg (vcA v)) (by rfl) (kb_all K3.out 1 rfl 44 _ rfl rfl Try.underlying44 rfl (sizeV)) ?_
      (try simp only [Act.put, List.getElem_toArray, List.getElem_cons_succ, List.getElem_cons_zero, List.setIfInBounds_toArray, List.set_cons_zero, List.set_cons_succ])
      refine wpList_val (.pointer (some ⟨b1, 13, none⟩)) (by rfl) (by go_simp) ?_
      (try simp only [Act.put, List.getElem_toArray, List.getElem_cons_succ, List.getElem_cons_zero, List.setIfInBounds_toArray, List.set_cons_zero, List.set_cons_succ])
      refine wpList_val (.agg (#[.int .u64 (u.r : Nat), .int .u32 (u.c : Nat), .int .u64 (u.b : Nat), .int .u16 (u.p : Nat)])) (by rfl) (kb_part K3.out 0 rfl 44 _ 13 (#[.int .u64 (u.r : Nat), .int .u32 (u.c : Nat), .int .u64 (u.b : Nat), .int .u16 (u.p : Nat)]).toList rfl rfl (part_of (by kernel_rfl)) Try.underlying44 rfl (sizeV)) ?_
      (try simp only [Act.put, List.getElem_toArray, List.getElem_cons_succ, List.getElem_cons_zero, List.setIfInBounds_toArray, List.set_cons_zero, List.set_cons_succ])
      refine kb_call K3.out 13 #[.agg (vcA v), .agg (#[.int .u64 (u.r : Nat), .int .u32 (u.c : Nat), .int .u64 (u.b : Nat), .int .u16 (u.p : Nat)])] (.bool true) (by rfl) (by go_simp) (by have q := CB.out w3; rw [hb] at q; exact q) ?_
      intro w4 hk
      have K4 := Lib.hid (show Kb w [(b1, poA ⟨x.p0, x.p1, x.p2, x.p3, x.p4, x.p5, x.p6, x.p7, x.p8, x.p9, x.p10, x.p11, x.p12, (u.r : Nat), (u.c : Nat), (u.b : Nat), (u.p : Nat), x.p17, x.p18, x.p19, x.p20⟩, 62), (b2, vcA v, 44)] w4 from hk)
      clear hk
      (try simp only [Act.put, List.getElem_toArray, List.getElem_cons_succ, List.getElem_cons_zero, List.setIfInBounds_toArray, List.set_cons_zero, List.set_cons_succ])
      refine wpList_val (.bool true) (by rfl) (run_pick_no (.tmp 8) (.const (.bool true)) (.tmp 12) _ rfl rfl rfl) ?_
      (try simp only [Act.put, List.getElem_toArray, List.getElem_cons_succ, List.getElem_cons_zero, List.setIfInBounds_toArray, List.set_cons_zero, List.set_cons_succ])
      refine wpList_val (.bool true) (by rfl) (by go_simp) ?_
      (try simp only [Act.put, List.getElem_toArray, List.getElem_cons_succ, List.getElem_cons_zero, List.setIfInBounds_toArray, List.set_cons_zero, List.set_cons_succ])
      refine wpList_skip (by kernel_rfl) ?_
      (try simp only [Act.put, List.getElem_toArray, List.getElem_cons_succ, List.getElem_cons_zero, List.setIfInBounds_toArray, List.set_cons_zero, List.set_cons_succ])
      refine wpList_skip (by kernel_rfl) ?_
      (try simp only [Act.put, List.getElem_toArray, List.getElem_cons_succ, List.getElem_cons_zero, List.setIfInBounds_toArray, List.set_cons_zero, List.set_cons_succ])
      refine wpList_skip (by kernel_rfl) ?_
      (try simp only [Act.put, List.getElem_toArray, List.getElem_cons_succ, List.getElem_cons_zero, List.setIfInBounds_toArray, List.set_cons_zero, List.set_cons_succ])
      refine wpList_val (.bool true) (by rfl) (run_pick_yes (.tmp 14) (.const (.bool true)) (.tmp 17) _ rfl rfl rfl) ?_
      (try simp only [Act.put, List.getElem_toArray, List.getElem_cons_succ, List.getElem_cons_zero, List.setIfInBounds_toArray, List.set_cons_zero, List.set_cons_succ])
      refine wpList_val (.bool true) (by rfl) (by go_simp) ?_
      (try simp only [Act.put, List.getElem_toArray, List.getElem_cons_succ, List.getElem_cons_zero, List.setIfInBounds_toArray, List.set_cons_zero, List.set_cons_succ])
      refine wpList_nil ?_
      go_wp2_with fail
      go_ret
      exact ⟨ret_bool (by simp [takesB, ha, hb]), K4.out.below⟩
  case true =>
    have K := Lib.hid (Kb.nil w)
    go_enter Try.func28, Try.ntmps28
    go_upto_region 0 with fail
    refine wp_region_lit ?_
    refine kb_box K.out 62 (.tmp 0) (poA ⟨x.p0, x.p1, x.p2, x.p3, x.p4, x.p5, x.p6, x.p7, x.p8, x.p9, x.p10, x.p11, x.p12, (u.r : Nat), (u.c : Nat), (u.b : Nat), (u.p : Nat), x.p17, x.p18, x.p19, x.p20⟩) rfl rfl (by rfl) ?_
    intro b1 w1 hb1 hk
    have K1 := Lib.hid (show Kb w [(b1, poA ⟨x.p0, x.p1, x.p2, x.p3, x.p4, x.p5, x.p6, x.p7, x.p8, x.p9, x.p10, x.p11, x.p12, (u.r : Nat), (u.c : Nat), (u.b : Nat), (u.p : Nat), x.p17, x.p18, x.p19, x.p20⟩, 62)] w1 from hk)
    clear hk hb1
    (try simp only [Act.put, List.getElem_toArray, List.getElem_cons_succ, List.getElem_cons_zero, List.setIfInBounds_toArray, List.set_cons_zero, List.set_cons_succ])
    refine kb_box K1.out 44 (.tmp 1) (vcA v) rfl rfl (by rfl) ?_
    intro b2 w2 hb2 hk
    have K2 := Lib.hid (show Kb w [(b1, poA ⟨x.p0, x.p1, x.p2, x.p3, x.p4, x.p5, x.p6, x.p7, x.p8, x.p9, x.p10, x.p11, x.p12, (u.r : Nat), (u.c : Nat), (u.b : Nat), (u.p : Nat), x.p17, x.p18, x.p19, x.p20⟩, 62), (b2, vcA v, 44)] w2 from hk)
    clear hk hb2
    (try simp only [Act.put, List.getElem_toArray, List.getElem_cons_succ, List.getElem_cons_zero, List.setIfInBounds_toArray, List.set_cons_zero, List.set_cons_succ])
    refine wpList_val (.bool false) (by rfl) (by go_simp) ?_
    (try simp only [Act.put, List.getElem_toArray, List.getElem_cons_succ, List.getElem_cons_zero, List.setIfInBounds_toArray, List.set_cons_zero, List.set_cons_succ])
    refine wpList_nil ?_
    go_upto_region 1 with fail
    refine wp_region_lit ?_
    refine wpList_val (.agg (poA ⟨x.p0, x.p1, x.p2, x.p3, x.p4, x.p5, x.p6, x.p7, x.p8, x.p9, x.p10, x.p11, x.p12, (u.r : Nat), (u.c : Nat), (u.b : Nat), (u.p : Nat), x.p17, x.p18, x.p19, x.p20⟩)) (by rfl) (kb_all K2.out 0 rfl 62 _ rfl rfl Try.underlying62 rfl (size50)) ?_
    (try simp only [Act.put, List.getElem_toArray, List.getElem_cons_succ, List.getElem_cons_zero, List.setIfInBounds_toArray, List.set_cons_zero, List.set_cons_succ])
    refine wpList_val (.agg (vcA v)) (by rfl) (kb_all K2.out 1 rfl 44 _ rfl rfl Try.underlying44 rfl (sizeV)) ?_
    (try simp only [Act.put, List.getElem_toArray, List.getElem_cons_succ, List.getElem_cons_zero, List.setIfInBounds_toArray, List.set_cons_zero, List.set_cons_succ])
    refine kb_call K2.out 32 #[.agg (poA ⟨x.p0, x.p1, x.p2, x.p3, x.p4, x.p5, x.p6, x.p7, x.p8, x.p9, x.p10, x.p11, x.p12, (u.r : Nat), (u.c : Nat), (u.b : Nat), (u.p : Nat), x.p17, x.p18, x.p19, x.p20⟩), .agg (vcA v)] (.bool true) (by rfl) (by go_simp) (by have q := CA.out w2; rw [ha] at q; exact q) ?_
    intro w3 hk
    have K3 := Lib.hid (show Kb w [(b1, poA ⟨x.p0, x.p1, x.p2, x.p3, x.p4, x.p5, x.p6, x.p7, x.p8, x.p9, x.p10, x.p11, x.p12, (u.r : Nat), (u.c : Nat), (u.b : Nat), (u.p : Nat), x.p17, x.p18, x.p19, x.p20⟩, 62), (b2, vcA v, 44)] w3 from hk)
    clear hk
    (try simp only [Act.put, List.getElem_toArray, List.getElem_cons_succ, List.getElem_cons_zero, List.setIfInBounds_toArray, List.set_cons_zero, List.set_cons_succ])
    refine wpList_val (.bool true) (by rfl) (by go_simp) ?_
    (try simp only [Act.put, List.getElem_toArray, List.getElem_cons_succ, List.getElem_cons_zero, List.setIfInBounds_toArray, List.set_cons_zero, List.set_cons_succ])
    refine wpList_skip (by kernel_rfl) ?_
    (try simp only [Act.put, List.getElem_toArray, List.getElem_cons_succ, List.getElem_cons_zero, List.setIfInBounds_toArray, List.set_cons_zero, List.set_cons_succ])
    refine wpList_skip (by kernel_rfl) ?_
    (try simp only [Act.put, List.getElem_toArray, List.getElem_cons_succ, List.getElem_cons_zero, List.setIfInBounds_toArray, List.set_cons_zero, List.set_cons_succ])
    refine wpList_skip (by kernel_rfl) ?_
    (try simp only [Act.put, List.getElem_toArray, List.getElem_cons_succ, List.getElem_cons_zero, List.setIfInBounds_toArray, List.set_cons_zero, List.set_cons_succ])
    refine wpList_skip (by kernel_rfl) ?_
    (try simp only [Act.put, List.getElem_toArray, List.getElem_cons_succ, List.getElem_cons_zero, List.setIfInBounds_toArray, List.set_cons_zero, List.set_cons_succ])
    refine wpList_val (.bool true) (by rfl) (run_pick_yes (.tmp 8) (.const (.bool true)) (.tmp 12) _ rfl rfl rfl) ?_
    (try simp only [Act.put, List.getElem_toArray, List.getElem_cons_succ, List.getElem_cons_zero, List.setIfInBounds_toArray, List.set_cons_zero, List.set_cons_succ])
    refine wpList_val (.bool true) (by rfl) (by go_simp) ?_
    (try simp only [Act.put, List.getElem_toArray, List.getElem_cons_succ, List.getElem_cons_zero, List.setIfInBounds_toArray, List.set_cons_zero, List.set_cons_succ])
    refine wpList_skip (by kernel_rfl) ?_
    (try simp only [Act.put, List.getElem_toArray, List.getElem_cons_succ, List.getElem_cons_zero, List.setIfInBounds_toArray, List.set_cons_zero, List.set_cons_succ])
    refine wpList_skip (by kernel_rfl) ?_
    (try simp only [Act.put, List.getElem_toArray, List.getElem_cons_succ, List.getElem_cons_zero, List.setIfInBounds_toArray, List.set_cons_zero, List.set_cons_succ])
    refine wpList_skip (by kernel_rfl) ?_
    (try simp only [Act.put, List.getElem_toArray, List.getElem_cons_succ, List.getElem_cons_zero, List.setIfInBounds_toArray, List.set_cons_zero, List.set_cons_succ])
    refine wpList_val (.bool true) (by rfl) (run_pick_yes (.tmp 14) (.const (.bool true)) (.tmp 17) _ rfl rfl rfl) ?_
    (try simp only [Act.put, List.getElem_toArray, List.getElem_cons_succ, List.getElem_cons_zero, List.setIfInBounds_toArray, List.set_cons_zero, List.set_cons_succ])
    refine wpList_val (.bool true) (by rfl) (by go_simp) ?_
    (try simp only [Act.put, List.getElem_toArray, List.getElem_cons_succ, List.getElem_cons_zero, List.setIfInBounds_toArray, List.set_cons_zero, List.set_cons_succ])
    refine wpList_nil ?_
    go_wp2_with fail
    go_ret
    exact ⟨ret_bool (by simp [takesB, ha]), K3.out.below⟩
end Go.Proofs.Ytojijeaofkndpaa
