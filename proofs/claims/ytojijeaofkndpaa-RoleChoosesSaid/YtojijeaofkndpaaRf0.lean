/- The document: a way; which one is ahead. -/
import Derived.Test.YtojijeaofkndpaaRq0
namespace Go.Proofs.Ytojijeaofkndpaa
open Go.RowKit
attribute [local irreducible] wpQuiet wpList
set_option linter.unusedSimpArgs false
set_option linter.unusedVariables false

theorem ahead_eq (x y : Rp) : (lessV (plusV x.v x.c) (plusV y.v y.c) || (eqV (plusV x.v x.c) (plusV y.v y.c) && decide (x.i < y.i))) = aheadB x y := by
  unfold aheadB
  cases e : eqV (plusV x.v x.c) (plusV y.v y.c) with
  | false => simp
  | true =>
    have h : lessV (plusV x.v x.c) (plusV y.v y.c) = false := by
      rw [less_no]
      rw [eqV_iff] at e
      omega
    rw [h]
    simp
set_option maxRecDepth 100000 in
set_option maxHeartbeats 1000000 in
theorem requal_vc (x y : Vc) (w : World) : (Op.equalIn 10000 42 (vcV x) (vcV y)).run Try.prog w = .ok (eqV x y) w := by
  have hS : Try.prog.underlying 42 = some (.struct (Try.prog.fieldsOf 42)) := by kernel_rfl
  have hp : Try.prog.stoodInHeld 42 = false := by kernel_rfl
  rw [show (10000 : Nat) = 9999 + 1 from rfl, run_equalIn_agg w 9999 42 _ _ hS hp]
  simp only [Program.fieldsOf, Try.underlying42]
  have u22 := Try.underlying22
  have u23 := Try.underlying30
  have u24 := Try.underlying40
  have u29 := Try.underlying29
  go_simp
  simp only [Int.natCast_inj]
  unfold eqV
  by_cases h0 : x.r = y.r
  · by_cases h1 : x.c = y.c
    · by_cases h2 : x.b = y.b
      · by_cases h3 : x.p = y.p <;> simp [h0, h1, h2, h3]
      · simp [h0, h1, h2]
    · simp [h0, h1]
  · simp [h0]
set_option maxRecDepth 100000 in
set_option maxHeartbeats 8000000 in
theorem rway_any (self : Nat) (x : Rp) (w : World) : Calls Try.prog 23 #[.int .u64 (self : Nat), .agg (rpA x)] w fun e w' => e = .returned (.bool (wayB self x)) ∧ Below w.heap.size w w' := by
  obtain ⟨o, ho⟩ : ∃ o, o = x.on := ⟨_, rfl⟩
  obtain ⟨h, hh⟩ : ∃ o, o = x.hd := ⟨_, rfl⟩
  have HO := Lib.hid ho
  have HH := Lib.hid hh
  clear ho hh
  cases o
  case false =>
    have EA : rpA x = #[.bool false, .bool h, .int .u64 (x.v.r : Nat), .int .u32 (x.v.c : Nat), .int .u64 (x.v.b : Nat), .int .u16 (x.v.p : Nat), .int .u32 (x.c : Nat), .int .u16 (x.i : Nat)] := by unfold rpA; rw [← HO.out, ← HH.out]
    have HW : wayB self x = false := by unfold wayB; rw [← HO.out, ← HH.out]; simp
    rw [HW, EA]
    clear HW EA
    have K := Lib.hid (Kb.nil w)
    go_enter Try.func23, Try.ntmps23
    go_upto_region 0 with fail
    refine wp_region_lit ?_
    refine kb_box K.out 77 (.tmp 1) (#[.bool false, .bool h, .int .u64 (x.v.r : Nat), .int .u32 (x.v.c : Nat), .int .u64 (x.v.b : Nat), .int .u16 (x.v.p : Nat), .int .u32 (x.c : Nat), .int .u16 (x.i : Nat)]) rfl rfl (by rfl) ?_
    intro b1 w1 hb1 hk
    have K1 := Lib.hid (show Kb w [(b1, #[.bool false, .bool h, .int .u64 (x.v.r : Nat), .int .u32 (x.v.c : Nat), .int .u64 (x.v.b : Nat), .int .u16 (x.v.p : Nat), .int .u32 (x.c : Nat), .int .u16 (x.i : Nat)], 77)] w1 from hk)
    clear hk hb1
    (try simp only [Act.put, List.getElem_toArray, List.getElem_cons_succ, List.getElem_cons_zero, List.setIfInBounds_toArray, List.set_cons_zero, List.set_cons_succ])
    refine wpList_val (.bool false) (by rfl) (by go_simp) ?_
    (try simp only [Act.put, List.getElem_toArray, List.getElem_cons_succ, List.getElem_cons_zero, List.setIfInBounds_toArray, List.set_cons_zero, List.set_cons_succ])
    refine wpList_nil ?_
    go_upto_region 1 with fail
    refine wp_region_lit ?_
    refine wpList_val (.pointer (some ⟨b1, 0, none⟩)) (by rfl) (by go_simp) ?_
    (try simp only [Act.put, List.getElem_toArray, List.getElem_cons_succ, List.getElem_cons_zero, List.setIfInBounds_toArray, List.set_cons_zero, List.set_cons_succ])
    refine wpList_val (.bool false) (by rfl) (by have q : w1.cell? ⟨b1, 0, none⟩ = some (.bool false) := K1.out.cell (i := 0) rfl (by rfl); go_simp) ?_
    (try simp only [Act.put, List.getElem_toArray, List.getElem_cons_succ, List.getElem_cons_zero, List.setIfInBounds_toArray, List.set_cons_zero, List.set_cons_succ])
    refine wpList_val (.bool false) (by rfl) (by go_simp) ?_
    (try simp only [Act.put, List.getElem_toArray, List.getElem_cons_succ, List.getElem_cons_zero, List.setIfInBounds_toArray, List.set_cons_zero, List.set_cons_succ])
    refine wpList_skip (by kernel_rfl) ?_
    (try simp only [Act.put, List.getElem_toArray, List.getElem_cons_succ, List.getElem_cons_zero, List.setIfInBounds_toArray, List.set_cons_zero, List.set_cons_succ])
    refine wpList_skip (by kernel_rfl) ?_
    (try simp only [Act.put, List.getElem_toArray, List.getElem_cons_succ, List.getElem_cons_zero, List.setIfInBounds_toArray, List.set_cons_zero, List.set_cons_succ])
    refine wpList_val (.bool false) (by rfl) (run_pick_no (.tmp 7) (.tmp 9) (.const (.bool false)) _ rfl rfl rfl) ?_
    (try simp only [Act.put, List.getElem_toArray, List.getElem_cons_succ, List.getElem_cons_zero, List.setIfInBounds_toArray, List.set_cons_zero, List.set_cons_succ])
    refine wpList_val (.bool false) (by rfl) (by go_simp) ?_
    (try simp only [Act.put, List.getElem_toArray, List.getElem_cons_succ, List.getElem_cons_zero, List.setIfInBounds_toArray, List.set_cons_zero, List.set_cons_succ])
    refine wpList_skip (by kernel_rfl) ?_
    (try simp only [Act.put, List.getElem_toArray, List.getElem_cons_succ, List.getElem_cons_zero, List.setIfInBounds_toArray, List.set_cons_zero, List.set_cons_succ])
    refine wpList_skip (by kernel_rfl) ?_
    (try simp only [Act.put, List.getElem_toArray, List.getElem_cons_succ, List.getElem_cons_zero, List.setIfInBounds_toArray, List.set_cons_zero, List.set_cons_succ])
    refine wpList_skip (by kernel_rfl) ?_
    (try simp only [Act.put, List.getElem_toArray, List.getElem_cons_succ, List.getElem_cons_zero, List.setIfInBounds_toArray, List.set_cons_zero, List.set_cons_succ])
    refine wpList_skip (by kernel_rfl) ?_
    (try simp only [Act.put, List.getElem_toArray, List.getElem_cons_succ, List.getElem_cons_zero, List.setIfInBounds_toArray, List.set_cons_zero, List.set_cons_succ])
    refine wpList_skip (by kernel_rfl) ?_
    (try simp only [Act.put, List.getElem_toArray, List.getElem_cons_succ, List.getElem_cons_zero, List.setIfInBounds_toArray, List.set_cons_zero, List.set_cons_succ])
    refine wpList_val (.bool false) (by rfl) (run_pick_no (.tmp 11) (.tmp 16) (.const (.bool false)) _ rfl rfl rfl) ?_
    (try simp only [Act.put, List.getElem_toArray, List.getElem_cons_succ, List.getElem_cons_zero, List.setIfInBounds_toArray, List.set_cons_zero, List.set_cons_succ])
    refine wpList_val (.bool false) (by rfl) (by go_simp) ?_
    (try simp only [Act.put, List.getElem_toArray, List.getElem_cons_succ, List.getElem_cons_zero, List.setIfInBounds_toArray, List.set_cons_zero, List.set_cons_succ])
    refine wpList_nil ?_
    go_wp2_with fail
    go_ret
    exact ⟨ret_bool (rfl), K1.out.below⟩
  case true =>
    cases h
    case false =>
      have EA : rpA x = #[.bool true, .bool false, .int .u64 (x.v.r : Nat), .int .u32 (x.v.c : Nat), .int .u64 (x.v.b : Nat), .int .u16 (x.v.p : Nat), .int .u32 (x.c : Nat), .int .u16 (x.i : Nat)] := by unfold rpA; rw [← HO.out, ← HH.out]
      have HW : wayB self x = false := by unfold wayB; rw [← HO.out, ← HH.out]; simp
      rw [HW, EA]
      clear HW EA
      have K := Lib.hid (Kb.nil w)
      go_enter Try.func23, Try.ntmps23
      go_upto_region 0 with fail
      refine wp_region_lit ?_
      refine kb_box K.out 77 (.tmp 1) (#[.bool true, .bool false, .int .u64 (x.v.r : Nat), .int .u32 (x.v.c : Nat), .int .u64 (x.v.b : Nat), .int .u16 (x.v.p : Nat), .int .u32 (x.c : Nat), .int .u16 (x.i : Nat)]) rfl rfl (by rfl) ?_
      intro b1 w1 hb1 hk
      have K1 := Lib.hid (show Kb w [(b1, #[.bool true, .bool false, .int .u64 (x.v.r : Nat), .int .u32 (x.v.c : Nat), .int .u64 (x.v.b : Nat), .int .u16 (x.v.p : Nat), .int .u32 (x.c : Nat), .int .u16 (x.i : Nat)], 77)] w1 from hk)
      clear hk hb1
      (try simp only [Act.put, List.getElem_toArray, List.getElem_cons_succ, List.getElem_cons_zero, List.setIfInBounds_toArray, List.set_cons_zero, List.set_cons_succ])
      refine wpList_val (.bool false) (by rfl) (by go_simp) ?_
      (try simp only [Act.put, List.getElem_toArray, List.getElem_cons_succ, List.getElem_cons_zero, List.setIfInBounds_toArray, List.set_cons_zero, List.set_cons_succ])
      refine wpList_nil ?_
      go_upto_region 1 with fail
      refine wp_region_lit ?_
      refine wpList_val (.pointer (some ⟨b1, 0, none⟩)) (by rfl) (by go_simp) ?_
      (try simp only [Act.put, List.getElem_toArray, List.getElem_cons_succ, List.getElem_cons_zero, List.setIfInBounds_toArray, List.set_cons_zero, List.set_cons_succ])
      refine wpList_val (.bool true) (by rfl) (by have q : w1.cell? ⟨b1, 0, none⟩ = some (.bool true) := K1.out.cell (i := 0) rfl (by rfl); go_simp) ?_
      (try simp only [Act.put, List.getElem_toArray, List.getElem_cons_succ, List.getElem_cons_zero, List.setIfInBounds_toArray, List.set_cons_zero, List.set_cons_succ])
      refine wpList_val (.bool true) (by rfl) (by go_simp) ?_
      (try simp only [Act.put, List.getElem_toArray, List.getElem_cons_succ, List.getElem_cons_zero, List.setIfInBounds_toArray, List.set_cons_zero, List.set_cons_succ])
      refine wpList_val (.pointer (some ⟨b1, 1, none⟩)) (by rfl) (by go_simp) ?_
      (try simp only [Act.put, List.getElem_toArray, List.getElem_cons_succ, List.getElem_cons_zero, List.setIfInBounds_toArray, List.set_cons_zero, List.set_cons_succ])
      refine wpList_val (.bool false) (by rfl) (by have q : w1.cell? ⟨b1, 1, none⟩ = some (.bool false) := K1.out.cell (i := 0) rfl (by rfl); go_simp) ?_
      (try simp only [Act.put, List.getElem_toArray, List.getElem_cons_succ, List.getElem_cons_zero, List.setIfInBounds_toArray, List.set_cons_zero, List.set_cons_succ])
      refine wpList_val (.bool false) (by rfl) (run_pick_yes (.tmp 7) (.tmp 9) (.const (.bool false)) _ rfl rfl rfl) ?_
      (try simp only [Act.put, List.getElem_toArray, List.getElem_cons_succ, List.getElem_cons_zero, List.setIfInBounds_toArray, List.set_cons_zero, List.set_cons_succ])
      refine wpList_val (.bool false) (by rfl) (by go_simp) ?_
      (try simp only [Act.put, List.getElem_toArray, List.getElem_cons_succ, List.getElem_cons_zero, List.setIfInBounds_toArray, List.set_cons_zero, List.set_cons_succ])
      refine wpList_skip (by kernel_rfl) ?_
      (try simp only [Act.put, List.getElem_toArray, List.getElem_cons_succ, List.getElem_cons_zero, List.setIfInBounds_toArray, List.set_cons_zero, List.set_cons_succ])
      refine wpList_skip (by kernel_rfl) ?_
      (try simp only [Act.put, List.getElem_toArray, List.getElem_cons_succ, List.getElem_cons_zero, List.setIfInBounds_toArray, List.set_cons_zero, List.set_cons_succ])
      refine wpList_skip (by kernel_rfl) ?_
      (try simp only [Act.put, List.getElem_toArray, List.getElem_cons_succ, List.getElem_cons_zero, List.setIfInBounds_toArray, List.set_cons_zero, List.set_cons_succ])
      refine wpList_skip (by kernel_rfl) ?_
      (try simp only [Act.put, List.getElem_toArray, List.getElem_cons_succ, List.getElem_cons_zero, List.setIfInBounds_toArray, List.set_cons_zero, List.set_cons_succ])
      refine wpList_skip (by kernel_rfl) ?_
      (try simp only [Act.put, List.getElem_toArray, List.getElem_cons_succ, List.getElem_cons_zero, List.setIfInBounds_toArray, List.set_cons_zero, List.set_cons_succ])
      refine wpList_val (.bool false) (by rfl) (run_pick_no (.tmp 11) (.tmp 16) (.const (.bool false)) _ rfl rfl rfl) ?_
      (try simp only [Act.put, List.getElem_toArray, List.getElem_cons_succ, List.getElem_cons_zero, List.setIfInBounds_toArray, List.set_cons_zero, List.set_cons_succ])
      refine wpList_val (.bool false) (by rfl) (by go_simp) ?_
      (try simp only [Act.put, List.getElem_toArray, List.getElem_cons_succ, List.getElem_cons_zero, List.setIfInBounds_toArray, List.set_cons_zero, List.set_cons_succ])
      refine wpList_nil ?_
      go_wp2_with fail
      go_ret
      exact ⟨ret_bool (rfl), K1.out.below⟩
    case true =>
      by_cases hb : x.v.b = self
      case pos =>
        have hbi : (x.v.b : Int) = (self : Int) := by omega
        have EA : rpA x = #[.bool true, .bool true, .int .u64 (x.v.r : Nat), .int .u32 (x.v.c : Nat), .int .u64 (x.v.b : Nat), .int .u16 (x.v.p : Nat), .int .u32 (x.c : Nat), .int .u16 (x.i : Nat)] := by unfold rpA; rw [← HO.out, ← HH.out]
        have HW : wayB self x = false := by unfold wayB; rw [← HO.out, ← HH.out]; simp [hb]
        rw [HW, EA]
        clear HW EA
        have K := Lib.hid (Kb.nil w)
        go_enter Try.func23, Try.ntmps23
        go_upto_region 0 with fail
        refine wp_region_lit ?_
        refine kb_box K.out 77 (.tmp 1) (#[.bool true, .bool true, .int .u64 (x.v.r : Nat), .int .u32 (x.v.c : Nat), .int .u64 (x.v.b : Nat), .int .u16 (x.v.p : Nat), .int .u32 (x.c : Nat), .int .u16 (x.i : Nat)]) rfl rfl (by rfl) ?_
        intro b1 w1 hb1 hk
        have K1 := Lib.hid (show Kb w [(b1, #[.bool true, .bool true, .int .u64 (x.v.r : Nat), .int .u32 (x.v.c : Nat), .int .u64 (x.v.b : Nat), .int .u16 (x.v.p : Nat), .int .u32 (x.c : Nat), .int .u16 (x.i : Nat)], 77)] w1 from hk)
        clear hk hb1
        (try simp only [Act.put, List.getElem_toArray, List.getElem_cons_succ, List.getElem_cons_zero, List.setIfInBounds_toArray, List.set_cons_zero, List.set_cons_succ])
        refine wpList_val (.bool false) (by rfl) (by go_simp) ?_
        (try simp only [Act.put, List.getElem_toArray, List.getElem_cons_succ, List.getElem_cons_zero, List.setIfInBounds_toArray, List.set_cons_zero, List.set_cons_succ])
        refine wpList_nil ?_
        go_upto_region 1 with fail
        refine wp_region_lit ?_
        refine wpList_val (.pointer (some ⟨b1, 0, none⟩)) (by rfl) (by go_simp) ?_
        (try simp only [Act.put, List.getElem_toArray, List.getElem_cons_succ, List.getElem_cons_zero, List.setIfInBounds_toArray, List.set_cons_zero, List.set_cons_succ])
        refine wpList_val (.bool true) (by rfl) (by have q : w1.cell? ⟨b1, 0, none⟩ = some (.bool true) := K1.out.cell (i := 0) rfl (by rfl); go_simp) ?_
        (try simp only [Act.put, List.getElem_toArray, List.getElem_cons_succ, List.getElem_cons_zero, List.setIfInBounds_toArray, List.set_cons_zero, List.set_cons_succ])
        refine wpList_val (.bool true) (by rfl) (by go_simp) ?_
        (try simp only [Act.put, List.getElem_toArray, List.getElem_cons_succ, List.getElem_cons_zero, List.setIfInBounds_toArray, List.set_cons_zero, List.set_cons_succ])
        refine wpList_val (.pointer (some ⟨b1, 1, none⟩)) (by rfl) (by go_simp) ?_
        (try simp only [Act.put, List.getElem_toArray, List.getElem_cons_succ, List.getElem_cons_zero, List.setIfInBounds_toArray, List.set_cons_zero, List.set_cons_succ])
        refine wpList_val (.bool true) (by rfl) (by have q : w1.cell? ⟨b1, 1, none⟩ = some (.bool true) := K1.out.cell (i := 0) rfl (by rfl); go_simp) ?_
        (try simp only [Act.put, List.getElem_toArray, List.getElem_cons_succ, List.getElem_cons_zero, List.setIfInBounds_toArray, List.set_cons_zero, List.set_cons_succ])
        refine wpList_val (.bool true) (by rfl) (run_pick_yes (.tmp 7) (.tmp 9) (.const (.bool false)) _ rfl rfl rfl) ?_
        (try simp only [Act.put, List.getElem_toArray, List.getElem_cons_succ, List.getElem_cons_zero, List.setIfInBounds_toArray, List.set_cons_zero, List.set_cons_succ])
        refine wpList_val (.bool true) (by rfl) (by go_simp) ?_
        (try simp only [Act.put, List.getElem_toArray, List.getElem_cons_succ, List.getElem_cons_zero, List.setIfInBounds_toArray, List.set_cons_zero, List.set_cons_succ])
        refine wpList_val (.pointer (some ⟨b1, 2, none⟩)) (by rfl) (by go_simp) ?_
        (try simp only [Act.put, List.getElem_toArray, List.getElem_cons_succ, List.getElem_cons_zero, List.setIfInBounds_toArray, List.set_cons_zero, List.set_cons_succ])
        refine wpList_val (.pointer (some ⟨b1, 4, none⟩)) (by rfl) (by go_simp) ?_
        (try simp only [Act.put, List.getElem_toArray, List.getElem_cons_succ, List.getElem_cons_zero, List.setIfInBounds_toArray, List.set_cons_zero, List.set_cons_succ])
        refine wpList_val (.int .u64 (x.v.b : Nat)) (by rfl) (by have q : w1.cell? ⟨b1, 4, none⟩ = some (.int .u64 (x.v.b : Nat)) := K1.out.cell (i := 0) rfl (by rfl); go_simp) ?_
        (try simp only [Act.put, List.getElem_toArray, List.getElem_cons_succ, List.getElem_cons_zero, List.setIfInBounds_toArray, List.set_cons_zero, List.set_cons_succ])
        refine wpList_val (.int .u64 (self : Nat)) (by rfl) (by go_simp) ?_
        (try simp only [Act.put, List.getElem_toArray, List.getElem_cons_succ, List.getElem_cons_zero, List.setIfInBounds_toArray, List.set_cons_zero, List.set_cons_succ])
        refine wpList_val (.bool false) (by rfl) (by have q := hbi; go_simp) ?_
        (try simp only [Act.put, List.getElem_toArray, List.getElem_cons_succ, List.getElem_cons_zero, List.setIfInBounds_toArray, List.set_cons_zero, List.set_cons_succ])
        refine wpList_val (.bool false) (by rfl) (run_pick_yes (.tmp 11) (.tmp 16) (.const (.bool false)) _ rfl rfl rfl) ?_
        (try simp only [Act.put, List.getElem_toArray, List.getElem_cons_succ, List.getElem_cons_zero, List.setIfInBounds_toArray, List.set_cons_zero, List.set_cons_succ])
        refine wpList_val (.bool false) (by rfl) (by go_simp) ?_
        (try simp only [Act.put, List.getElem_toArray, List.getElem_cons_succ, List.getElem_cons_zero, List.setIfInBounds_toArray, List.set_cons_zero, List.set_cons_succ])
        refine wpList_nil ?_
        go_wp2_with fail
        go_ret
        exact ⟨ret_bool (rfl), K1.out.below⟩
      case neg =>
        have hbi : ¬ (x.v.b : Int) = (self : Int) := by omega
        have EA : rpA x = #[.bool true, .bool true, .int .u64 (x.v.r : Nat), .int .u32 (x.v.c : Nat), .int .u64 (x.v.b : Nat), .int .u16 (x.v.p : Nat), .int .u32 (x.c : Nat), .int .u16 (x.i : Nat)] := by unfold rpA; rw [← HO.out, ← HH.out]
        have HW : wayB self x = true := by unfold wayB; rw [← HO.out, ← HH.out]; simp [hb]
        rw [HW, EA]
        clear HW EA
        have K := Lib.hid (Kb.nil w)
        go_enter Try.func23, Try.ntmps23
        go_upto_region 0 with fail
        refine wp_region_lit ?_
        refine kb_box K.out 77 (.tmp 1) (#[.bool true, .bool true, .int .u64 (x.v.r : Nat), .int .u32 (x.v.c : Nat), .int .u64 (x.v.b : Nat), .int .u16 (x.v.p : Nat), .int .u32 (x.c : Nat), .int .u16 (x.i : Nat)]) rfl rfl (by rfl) ?_
        intro b1 w1 hb1 hk
        have K1 := Lib.hid (show Kb w [(b1, #[.bool true, .bool true, .int .u64 (x.v.r : Nat), .int .u32 (x.v.c : Nat), .int .u64 (x.v.b : Nat), .int .u16 (x.v.p : Nat), .int .u32 (x.c : Nat), .int .u16 (x.i : Nat)], 77)] w1 from hk)
        clear hk hb1
        (try simp only [Act.put, List.getElem_toArray, List.getElem_cons_succ, List.getElem_cons_zero, List.setIfInBounds_toArray, List.set_cons_zero, List.set_cons_succ])
        refine wpList_val (.bool false) (by rfl) (by go_simp) ?_
        (try simp only [Act.put, List.getElem_toArray, List.getElem_cons_succ, List.getElem_cons_zero, List.setIfInBounds_toArray, List.set_cons_zero, List.set_cons_succ])
        refine wpList_nil ?_
        go_upto_region 1 with fail
        refine wp_region_lit ?_
        refine wpList_val (.pointer (some ⟨b1, 0, none⟩)) (by rfl) (by go_simp) ?_
        (try simp only [Act.put, List.getElem_toArray, List.getElem_cons_succ, List.getElem_cons_zero, List.setIfInBounds_toArray, List.set_cons_zero, List.set_cons_succ])
        refine wpList_val (.bool true) (by rfl) (by have q : w1.cell? ⟨b1, 0, none⟩ = some (.bool true) := K1.out.cell (i := 0) rfl (by rfl); go_simp) ?_
        (try simp only [Act.put, List.getElem_toArray, List.getElem_cons_succ, List.getElem_cons_zero, List.setIfInBounds_toArray, List.set_cons_zero, List.set_cons_succ])
        refine wpList_val (.bool true) (by rfl) (by go_simp) ?_
        (try simp only [Act.put, List.getElem_toArray, List.getElem_cons_succ, List.getElem_cons_zero, List.setIfInBounds_toArray, List.set_cons_zero, List.set_cons_succ])
        refine wpList_val (.pointer (some ⟨b1, 1, none⟩)) (by rfl) (by go_simp) ?_
        (try simp only [Act.put, List.getElem_toArray, List.getElem_cons_succ, List.getElem_cons_zero, List.setIfInBounds_toArray, List.set_cons_zero, List.set_cons_succ])
        refine wpList_val (.bool true) (by rfl) (by have q : w1.cell? ⟨b1, 1, none⟩ = some (.bool true) := K1.out.cell (i := 0) rfl (by rfl); go_simp) ?_
        (try simp only [Act.put, List.getElem_toArray, List.getElem_cons_succ, List.getElem_cons_zero, List.setIfInBounds_toArray, List.set_cons_zero, List.set_cons_succ])
        refine wpList_val (.bool true) (by rfl) (run_pick_yes (.tmp 7) (.tmp 9) (.const (.bool false)) _ rfl rfl rfl) ?_
        (try simp only [Act.put, List.getElem_toArray, List.getElem_cons_succ, List.getElem_cons_zero, List.setIfInBounds_toArray, List.set_cons_zero, List.set_cons_succ])
        refine wpList_val (.bool true) (by rfl) (by go_simp) ?_
        (try simp only [Act.put, List.getElem_toArray, List.getElem_cons_succ, List.getElem_cons_zero, List.setIfInBounds_toArray, List.set_cons_zero, List.set_cons_succ])
        refine wpList_val (.pointer (some ⟨b1, 2, none⟩)) (by rfl) (by go_simp) ?_
        (try simp only [Act.put, List.getElem_toArray, List.getElem_cons_succ, List.getElem_cons_zero, List.setIfInBounds_toArray, List.set_cons_zero, List.set_cons_succ])
        refine wpList_val (.pointer (some ⟨b1, 4, none⟩)) (by rfl) (by go_simp) ?_
        (try simp only [Act.put, List.getElem_toArray, List.getElem_cons_succ, List.getElem_cons_zero, List.setIfInBounds_toArray, List.set_cons_zero, List.set_cons_succ])
        refine wpList_val (.int .u64 (x.v.b : Nat)) (by rfl) (by have q : w1.cell? ⟨b1, 4, none⟩ = some (.int .u64 (x.v.b : Nat)) := K1.out.cell (i := 0) rfl (by rfl); go_simp) ?_
        (try simp only [Act.put, List.getElem_toArray, List.getElem_cons_succ, List.getElem_cons_zero, List.setIfInBounds_toArray, List.set_cons_zero, List.set_cons_succ])
        refine wpList_val (.int .u64 (self : Nat)) (by rfl) (by go_simp) ?_
        (try simp only [Act.put, List.getElem_toArray, List.getElem_cons_succ, List.getElem_cons_zero, List.setIfInBounds_toArray, List.set_cons_zero, List.set_cons_succ])
        refine wpList_val (.bool true) (by rfl) (by have q := hbi; go_simp) ?_
        (try simp only [Act.put, List.getElem_toArray, List.getElem_cons_succ, List.getElem_cons_zero, List.setIfInBounds_toArray, List.set_cons_zero, List.set_cons_succ])
        refine wpList_val (.bool true) (by rfl) (run_pick_yes (.tmp 11) (.tmp 16) (.const (.bool false)) _ rfl rfl rfl) ?_
        (try simp only [Act.put, List.getElem_toArray, List.getElem_cons_succ, List.getElem_cons_zero, List.setIfInBounds_toArray, List.set_cons_zero, List.set_cons_succ])
        refine wpList_val (.bool true) (by rfl) (by go_simp) ?_
        (try simp only [Act.put, List.getElem_toArray, List.getElem_cons_succ, List.getElem_cons_zero, List.setIfInBounds_toArray, List.set_cons_zero, List.set_cons_succ])
        refine wpList_nil ?_
        go_wp2_with fail
        go_ret
        exact ⟨ret_bool (rfl), K1.out.below⟩
/-- The slots, while the region runs. -/
def RahF (x y : Rp) (p q : Vc) (b1 b2 : Nat) (L : Nat → Bool) (v5 v6 : Value) : Act := { tmps := #[.agg (rpA x), .agg (rpA y), .pointer (some ⟨b1, 0, none⟩), .pointer (some ⟨b2, 0, none⟩), .bool false, v5, v6, bif L 0 then .pointer (some ⟨b1, 2, none⟩) else undef, bif L 1 then .agg (#[.int .u64 (x.v.r : Nat), .int .u32 (x.v.c : Nat), .int .u64 (x.v.b : Nat), .int .u16 (x.v.p : Nat)]) else undef, bif L 2 then .pointer (some ⟨b1, 6, none⟩) else undef, bif L 3 then .int .u32 (x.c : Nat) else undef, bif L 4 then .agg (vcA p) else undef, bif L 5 then .pointer (some ⟨b2, 2, none⟩) else undef, bif L 6 then .agg (#[.int .u64 (y.v.r : Nat), .int .u32 (y.v.c : Nat), .int .u64 (y.v.b : Nat), .int .u16 (y.v.p : Nat)]) else undef, bif L 7 then .pointer (some ⟨b2, 6, none⟩) else undef, bif L 8 then .int .u32 (y.c : Nat) else undef, bif L 9 then .agg (vcA q) else undef, undef, undef, undef, undef, undef, undef, undef, undef, undef, undef, undef, undef, undef, undef, undef], defers := [] }
set_option maxRecDepth 100000 in
set_option maxHeartbeats 8000000 in
theorem rahead_any (x y : Rp) (hx : x.ok) (hy : y.ok) (w : World) : Calls Try.prog 24 #[.agg (rpA x), .agg (rpA y)] w fun e w' => e = .returned (.bool (aheadB x y)) ∧ Below w.heap.size w w' := by
  have OX := Lib.hid hx
  have OY := Lib.hid hy
  clear hx hy
  obtain ⟨p, hp⟩ : ∃ p, p = plusV x.v x.c := ⟨_, rfl⟩
  obtain ⟨q, hq⟩ : ∃ q, q = plusV y.v y.c := ⟨_, rfl⟩
  have PX := Lib.hid (show ∀ w, Calls Try.prog 25 #[vcV x.v, .int .u32 (x.c : Nat)] w fun e w' => e = .returned (vcV p) ∧ Below w.heap.size w w' from fun w => by rw [hp]; exact rplus_any x.v x.c w OX.out.1.2.1 OX.out.2.1)
  have PY := Lib.hid (show ∀ w, Calls Try.prog 25 #[vcV y.v, .int .u32 (y.c : Nat)] w fun e w' => e = .returned (vcV q) ∧ Below w.heap.size w w' from fun w => by rw [hq]; exact rplus_any y.v y.c w OY.out.1.2.1 OY.out.2.1)
  rw [← ahead_eq, ← hp, ← hq]
  clear hp hq
  have K := Lib.hid (Kb.nil w)
  go_enter Try.func24, Try.ntmps24
  go_upto_region 0 with fail
  refine wp_region_lit ?_
  refine kb_box K.out 77 (.tmp 0) (rpA x) rfl rfl (by rfl) ?_
  intro b1 w1 hb1 hk
  have K1 := Lib.hid (show Kb w [(b1, rpA x, 77)] w1 from hk)
  clear hk hb1
  (try simp only [Act.put, List.getElem_toArray, List.getElem_cons_succ, List.getElem_cons_zero, List.setIfInBounds_toArray, List.set_cons_zero, List.set_cons_succ])
  refine kb_box K1.out 77 (.tmp 1) (rpA y) rfl rfl (by rfl) ?_
  intro b2 w2 hb2 hk
  have K2 := Lib.hid (show Kb w [(b1, rpA x, 77), (b2, rpA y, 77)] w2 from hk)
  clear hk hb2
  (try simp only [Act.put, List.getElem_toArray, List.getElem_cons_succ, List.getElem_cons_zero, List.setIfInBounds_toArray, List.set_cons_zero, List.set_cons_succ])
  refine wpList_val (.bool false) (by rfl) (by go_simp) ?_
  (try simp only [Act.put, List.getElem_toArray, List.getElem_cons_succ, List.getElem_cons_zero, List.setIfInBounds_toArray, List.set_cons_zero, List.set_cons_succ])
  refine wpList_nil ?_
  go_upto_region 1 with fail
  refine wp_region_inv (I := fun L ac w' => ∃ (v5 v6 : Value), ac = RahF x y p q b1 b2 L v5 v6 ∧ W2 w2 42 42 4 4 (vcA p) (vcA q) (L 10) (L 11) (L 12) (L 13) v5 v6 w') (by kernel_rfl) (by kernel_rfl) ⟨undef, undef, by kernel_rfl, W2.start _⟩ ?_ ?_
  · intro i hi Lx ac w' hI hL haft
    obtain ⟨v5, v6, rfl, hw⟩ := hI
    match i, hi with
    | 0, _ =>
      have g2 : (RahF x y p q b1 b2 Lx v5 v6).tmps[2]?.getD undef = .pointer (some ⟨b1, 0, none⟩) := by kernel_rfl
      have e2 : (RahF x y p q b1 b2 Lx v5 v6).eval (.tmp 2) = .pointer (some ⟨b1, 0, none⟩) := by kernel_rfl
      exact i_val rfl (.pointer (some ⟨b1, 2, none⟩)) w' (by rfl) (by go_simp) ⟨v5, v6, by kernel_rfl, hw⟩
    | 1, _ =>
      have h0 := haft 0 (by decide)
      have e7 : (RahF x y p q b1 b2 Lx v5 v6).eval (.tmp 7) = .pointer (some ⟨b1, 2, none⟩) := by show (bif Lx 0 then _ else _) = _; rw [h0]; rfl
      have g7 : (RahF x y p q b1 b2 Lx v5 v6).tmps[7]?.getD undef = .pointer (some ⟨b1, 2, none⟩) := by show (bif Lx 0 then _ else _) = _; rw [h0]; rfl
      exact i_val rfl (.agg (#[.int .u64 (x.v.r : Nat), .int .u32 (x.v.c : Nat), .int .u64 (x.v.b : Nat), .int .u16 (x.v.p : Nat)])) w' (by rfl) (kb_part (K2.out.next hw.from1) 0 rfl 42 _ 2 (#[.int .u64 (x.v.r : Nat), .int .u32 (x.v.c : Nat), .int .u64 (x.v.b : Nat), .int .u16 (x.v.p : Nat)]).toList rfl e7 (part_of (by kernel_rfl)) Try.underlying42 rfl (sizeVr)) ⟨v5, v6, by kernel_rfl, hw⟩
    | 2, _ =>
      have g2 : (RahF x y p q b1 b2 Lx v5 v6).tmps[2]?.getD undef = .pointer (some ⟨b1, 0, none⟩) := by kernel_rfl
      have e2 : (RahF x y p q b1 b2 Lx v5 v6).eval (.tmp 2) = .pointer (some ⟨b1, 0, none⟩) := by kernel_rfl
      exact i_val rfl (.pointer (some ⟨b1, 6, none⟩)) w' (by rfl) (by go_simp) ⟨v5, v6, by kernel_rfl, hw⟩
    | 3, _ =>
      have h2 := haft 2 (by decide)
      have e9 : (RahF x y p q b1 b2 Lx v5 v6).eval (.tmp 9) = .pointer (some ⟨b1, 6, none⟩) := by show (bif Lx 2 then _ else _) = _; rw [h2]; rfl
      have g9 : (RahF x y p q b1 b2 Lx v5 v6).tmps[9]?.getD undef = .pointer (some ⟨b1, 6, none⟩) := by show (bif Lx 2 then _ else _) = _; rw [h2]; rfl
      exact i_val rfl (.int .u32 (x.c : Nat)) w' (by rfl) (by have q : w'.cell? ⟨b1, 6, none⟩ = some (.int .u32 (x.c : Nat)) := Kb.cell (i := 0) (K2.out.next hw.from1) rfl (by rfl); go_simp) ⟨v5, v6, by kernel_rfl, hw⟩
    | 4, _ =>
      have h1 := haft 1 (by decide)
      have e8 : (RahF x y p q b1 b2 Lx v5 v6).eval (.tmp 8) = .agg (#[.int .u64 (x.v.r : Nat), .int .u32 (x.v.c : Nat), .int .u64 (x.v.b : Nat), .int .u16 (x.v.p : Nat)]) := by show (bif Lx 1 then _ else _) = _; rw [h1]; rfl
      have g8 : (RahF x y p q b1 b2 Lx v5 v6).tmps[8]?.getD undef = .agg (#[.int .u64 (x.v.r : Nat), .int .u32 (x.v.c : Nat), .int .u64 (x.v.b : Nat), .int .u16 (x.v.p : Nat)]) := by show (bif Lx 1 then _ else _) = _; rw [h1]; rfl
      have h3 := haft 3 (by decide)
      have e10 : (RahF x y p q b1 b2 Lx v5 v6).eval (.tmp 10) = .int .u32 (x.c : Nat) := by show (bif Lx 3 then _ else _) = _; rw [h3]; rfl
      have g10 : (RahF x y p q b1 b2 Lx v5 v6).tmps[10]?.getD undef = .int .u32 (x.c : Nat) := by show (bif Lx 3 then _ else _) = _; rw [h3]; rfl
      exact i_call rfl (.agg (vcA p)) 25 #[.agg (#[.int .u64 (x.v.r : Nat), .int .u32 (x.v.c : Nat), .int .u64 (x.v.b : Nat), .int .u16 (x.v.p : Nat)]), .int .u32 (x.c : Nat)] (fun w2 => Below w'.heap.size w' w2) (by rfl) (by go_simp) (PX.out w') (fun w2 hb => ⟨v5, v6, by kernel_rfl, hw.next hb⟩)
    | 5, _ =>
      have g3 : (RahF x y p q b1 b2 Lx v5 v6).tmps[3]?.getD undef = .pointer (some ⟨b2, 0, none⟩) := by kernel_rfl
      have e3 : (RahF x y p q b1 b2 Lx v5 v6).eval (.tmp 3) = .pointer (some ⟨b2, 0, none⟩) := by kernel_rfl
      exact i_val rfl (.pointer (some ⟨b2, 2, none⟩)) w' (by rfl) (by go_simp) ⟨v5, v6, by kernel_rfl, hw⟩
    | 6, _ =>
      have h5 := haft 5 (by decide)
      have e12 : (RahF x y p q b1 b2 Lx v5 v6).eval (.tmp 12) = .pointer (some ⟨b2, 2, none⟩) := by show (bif Lx 5 then _ else _) = _; rw [h5]; rfl
      have g12 : (RahF x y p q b1 b2 Lx v5 v6).tmps[12]?.getD undef = .pointer (some ⟨b2, 2, none⟩) := by show (bif Lx 5 then _ else _) = _; rw [h5]; rfl
      exact i_val rfl (.agg (#[.int .u64 (y.v.r : Nat), .int .u32 (y.v.c : Nat), .int .u64 (y.v.b : Nat), .int .u16 (y.v.p : Nat)])) w' (by rfl) (kb_part (K2.out.next hw.from1) 1 rfl 42 _ 2 (#[.int .u64 (y.v.r : Nat), .int .u32 (y.v.c : Nat), .int .u64 (y.v.b : Nat), .int .u16 (y.v.p : Nat)]).toList rfl e12 (part_of (by kernel_rfl)) Try.underlying42 rfl (sizeVr)) ⟨v5, v6, by kernel_rfl, hw⟩
    | 7, _ =>
      have g3 : (RahF x y p q b1 b2 Lx v5 v6).tmps[3]?.getD undef = .pointer (some ⟨b2, 0, none⟩) := by kernel_rfl
      have e3 : (RahF x y p q b1 b2 Lx v5 v6).eval (.tmp 3) = .pointer (some ⟨b2, 0, none⟩) := by kernel_rfl
      exact i_val rfl (.pointer (some ⟨b2, 6, none⟩)) w' (by rfl) (by go_simp) ⟨v5, v6, by kernel_rfl, hw⟩
    | 8, _ =>
      have h7 := haft 7 (by decide)
      have e14 : (RahF x y p q b1 b2 Lx v5 v6).eval (.tmp 14) = .pointer (some ⟨b2, 6, none⟩) := by show (bif Lx 7 then _ else _) = _; rw [h7]; rfl
      have g14 : (RahF x y p q b1 b2 Lx v5 v6).tmps[14]?.getD undef = .pointer (some ⟨b2, 6, none⟩) := by show (bif Lx 7 then _ else _) = _; rw [h7]; rfl
      exact i_val rfl (.int .u32 (y.c : Nat)) w' (by rfl) (by have q : w'.cell? ⟨b2, 6, none⟩ = some (.int .u32 (y.c : Nat)) := Kb.cell (i := 1) (K2.out.next hw.from1) rfl (by rfl); go_simp) ⟨v5, v6, by kernel_rfl, hw⟩
    | 9, _ =>
      have h6 := haft 6 (by decide)
      have e13 : (RahF x y p q b1 b2 Lx v5 v6).eval (.tmp 13) = .agg (#[.int .u64 (y.v.r : Nat), .int .u32 (y.v.c : Nat), .int .u64 (y.v.b : Nat), .int .u16 (y.v.p : Nat)]) := by show (bif Lx 6 then _ else _) = _; rw [h6]; rfl
      have g13 : (RahF x y p q b1 b2 Lx v5 v6).tmps[13]?.getD undef = .agg (#[.int .u64 (y.v.r : Nat), .int .u32 (y.v.c : Nat), .int .u64 (y.v.b : Nat), .int .u16 (y.v.p : Nat)]) := by show (bif Lx 6 then _ else _) = _; rw [h6]; rfl
      have h8 := haft 8 (by decide)
      have e15 : (RahF x y p q b1 b2 Lx v5 v6).eval (.tmp 15) = .int .u32 (y.c : Nat) := by show (bif Lx 8 then _ else _) = _; rw [h8]; rfl
      have g15 : (RahF x y p q b1 b2 Lx v5 v6).tmps[15]?.getD undef = .int .u32 (y.c : Nat) := by show (bif Lx 8 then _ else _) = _; rw [h8]; rfl
      exact i_call rfl (.agg (vcA q)) 25 #[.agg (#[.int .u64 (y.v.r : Nat), .int .u32 (y.v.c : Nat), .int .u64 (y.v.b : Nat), .int .u16 (y.v.p : Nat)]), .int .u32 (y.c : Nat)] (fun w2 => Below w'.heap.size w' w2) (by rfl) (by go_simp) (PY.out w') (fun w2 hb => ⟨v5, v6, by kernel_rfl, hw.next hb⟩)
    | 10, _ =>
      have hz := z42 w'
      exact i_val rfl (.pointer (some ⟨w'.heap.size, 0, none⟩)) (w'.alloc (.cells (nil4) 42)) (by rfl) (by go_simp) ⟨(.pointer (some ⟨w'.heap.size, 0, none⟩)), v6, by kernel_rfl, hw.alloc7 rfl hL⟩
    | 11, _ =>
      have hz := z42 w'
      exact i_val rfl (.pointer (some ⟨w'.heap.size, 0, none⟩)) (w'.alloc (.cells (nil4) 42)) (by rfl) (by go_simp) ⟨v5, (.pointer (some ⟨w'.heap.size, 0, none⟩)), by kernel_rfl, hw.alloc8 rfl hL⟩
    | 12, _ =>
      have e5 : (RahF x y p q b1 b2 Lx v5 v6).eval (.tmp 5) = v5 := by kernel_rfl
      have g5 : (RahF x y p q b1 b2 Lx v5 v6).tmps[5]?.getD undef = v5 := by kernel_rfl
      have h4 := haft 4 (by decide)
      have e11 : (RahF x y p q b1 b2 Lx v5 v6).eval (.tmp 11) = .agg (vcA p) := by show (bif Lx 4 then _ else _) = _; rw [h4]; rfl
      have g11 : (RahF x y p q b1 b2 Lx v5 v6).tmps[11]?.getD undef = .agg (vcA p) := by show (bif Lx 4 then _ else _) = _; rw [h4]; rfl
      obtain ⟨c, cs, rfl, hB, hz, hk, -⟩ := hw.p7 (haft 10 (by decide))
      exact i_wp rfl (by rfl) (wp_store_row 42 _ _ rfl c (vcA p) e5 e11 42 cs hk (sizeVr) (hz.trans rfl) (by kernel_rfl) ⟨(.pointer (some ⟨c, 0, none⟩)), v6, by kernel_rfl, hw.store7 (haft 10 (by decide)) rfl hk hB⟩)
    | 13, _ =>
      have e6 : (RahF x y p q b1 b2 Lx v5 v6).eval (.tmp 6) = v6 := by kernel_rfl
      have g6 : (RahF x y p q b1 b2 Lx v5 v6).tmps[6]?.getD undef = v6 := by kernel_rfl
      have h9 := haft 9 (by decide)
      have e16 : (RahF x y p q b1 b2 Lx v5 v6).eval (.tmp 16) = .agg (vcA q) := by show (bif Lx 9 then _ else _) = _; rw [h9]; rfl
      have g16 : (RahF x y p q b1 b2 Lx v5 v6).tmps[16]?.getD undef = .agg (vcA q) := by show (bif Lx 9 then _ else _) = _; rw [h9]; rfl
      obtain ⟨c, cs, rfl, hB, hz, hk, -⟩ := hw.p8 (haft 11 (by decide))
      exact i_wp rfl (by rfl) (wp_store_row 42 _ _ rfl c (vcA q) e6 e16 42 cs hk (sizeVr) (hz.trans rfl) (by kernel_rfl) ⟨v5, (.pointer (some ⟨c, 0, none⟩)), by kernel_rfl, hw.store8 (haft 11 (by decide)) rfl hk hB⟩)
    | k + 14, h =>
      exfalso
      have h2 : k + 14 < 14 := h
      omega
  intro Lx ac w3 hI hall
  obtain ⟨v5, v6, rfl, hw⟩ := hI
  obtain ⟨b3x, cs0, hv0, hB0, -, hk0, hx0⟩ := hw.p7 (hall 10 (by decide))
  have hx0 := hx0 (hall 12 (by decide))
  subst hx0
  obtain ⟨b3y, cs1, hv1, hB1, -, hk1, hx1⟩ := hw.p8 (hall 11 (by decide))
  have hx1 := hx1 (hall 13 (by decide))
  subst hx1
  have hd := hw.d78 (hall 10 (by decide)) (hall 11 (by decide))
  subst hv0
  subst hv1
  have hfr : RahF x y p q b1 b2 Lx (.pointer (some ⟨b3x, 0, none⟩)) (.pointer (some ⟨b3y, 0, none⟩)) = { tmps := #[.agg (rpA x), .agg (rpA y), .pointer (some ⟨b1, 0, none⟩), .pointer (some ⟨b2, 0, none⟩), .bool false, .pointer (some ⟨b3x, 0, none⟩), .pointer (some ⟨b3y, 0, none⟩), .pointer (some ⟨b1, 2, none⟩), .agg (#[.int .u64 (x.v.r : Nat), .int .u32 (x.v.c : Nat), .int .u64 (x.v.b : Nat), .int .u16 (x.v.p : Nat)]), .pointer (some ⟨b1, 6, none⟩), .int .u32 (x.c : Nat), .agg (vcA p), .pointer (some ⟨b2, 2, none⟩), .agg (#[.int .u64 (y.v.r : Nat), .int .u32 (y.v.c : Nat), .int .u64 (y.v.b : Nat), .int .u16 (y.v.p : Nat)]), .pointer (some ⟨b2, 6, none⟩), .int .u32 (y.c : Nat), .agg (vcA q), undef, undef, undef, undef, undef, undef, undef, undef, undef, undef, undef, undef, undef, undef, undef], defers := [] } := by unfold RahF; simp only [hall 0 (by decide), hall 1 (by decide), hall 2 (by decide), hall 3 (by decide), hall 4 (by decide), hall 5 (by decide), hall 6 (by decide), hall 7 (by decide), hall 8 (by decide), hall 9 (by decide), hall 10 (by decide), hall 11 (by decide), cond_true]
  rw [hfr]
  clear hfr
  have hne : b3y ≠ b3x := fun e => hd (by rw [e])
  have K1x := (kb_add (K2.out.next hw.from1) hk0 (fun x hx => by have := ((K2.out.all x hx).lt); omega) (Nat.le_trans K2.out.below.size hB0))
  have fr1 : ∀ xq ∈ [(b1, rpA x, 77), (b2, rpA y, 77), (b3x, vcA p, 42)], xq.1 ≠ b3y := fun xq hx => by
    rcases List.mem_append.1 (show xq ∈ [(b1, rpA x, 77), (b2, rpA y, 77)] ++ [(b3x, vcA p, 42)] from hx) with hx | hx
    · have := (K2.out.all xq hx).lt; omega
    · rw [List.mem_singleton.1 hx]; exact fun e => hne e.symm
  have K3 := Lib.hid (show Kb w [(b1, rpA x, 77), (b2, rpA y, 77), (b3x, vcA p, 42), (b3y, vcA q, 42)] w3 from kb_add K1x hk1 fr1 (Nat.le_trans K2.out.below.size hB1))
  clear K1x fr1 hne hd
  clear hw hall
  go_upto_region 2 with fail
  cases hls : lessV p q
  case false =>
    cases he : eqV p q
    case false =>
      refine wp_region_lit ?_
      refine wpList_val (.agg (vcA p)) (by rfl) (kb_all K3.out 2 rfl 42 _ rfl rfl Try.underlying42 rfl (sizeVr)) ?_
      (try simp only [Act.put, List.getElem_toArray, List.getElem_cons_succ, List.getElem_cons_zero, List.setIfInBounds_toArray, List.set_cons_zero, List.set_cons_succ])
      refine wpList_val (.agg (vcA q)) (by rfl) (kb_all K3.out 3 rfl 42 _ rfl rfl Try.underlying42 rfl (sizeVr)) ?_
      (try simp only [Act.put, List.getElem_toArray, List.getElem_cons_succ, List.getElem_cons_zero, List.setIfInBounds_toArray, List.set_cons_zero, List.set_cons_succ])
      refine kb_call K3.out 26 #[.agg (vcA p), .agg (vcA q)] (.bool false) (by rfl) (by go_simp) (by have h := rbetter_any p q w3; rw [hls] at h; exact h) ?_
      intro w4 hk
      have K4 := Lib.hid (show Kb w [(b1, rpA x, 77), (b2, rpA y, 77), (b3x, vcA p, 42), (b3y, vcA q, 42)] w4 from hk)
      clear hk
      (try simp only [Act.put, List.getElem_toArray, List.getElem_cons_succ, List.getElem_cons_zero, List.setIfInBounds_toArray, List.set_cons_zero, List.set_cons_succ])
      refine wpList_val (.bool false) (by rfl) (by go_simp) ?_
      (try simp only [Act.put, List.getElem_toArray, List.getElem_cons_succ, List.getElem_cons_zero, List.setIfInBounds_toArray, List.set_cons_zero, List.set_cons_succ])
      refine wpList_val (.agg (vcA p)) (by rfl) (kb_all K4.out 2 rfl 42 _ rfl rfl Try.underlying42 rfl (sizeVr)) ?_
      (try simp only [Act.put, List.getElem_toArray, List.getElem_cons_succ, List.getElem_cons_zero, List.setIfInBounds_toArray, List.set_cons_zero, List.set_cons_succ])
      refine wpList_val (.agg (vcA q)) (by rfl) (kb_all K4.out 3 rfl 42 _ rfl rfl Try.underlying42 rfl (sizeVr)) ?_
      (try simp only [Act.put, List.getElem_toArray, List.getElem_cons_succ, List.getElem_cons_zero, List.setIfInBounds_toArray, List.set_cons_zero, List.set_cons_succ])
      refine wpList_val (.bool false) (by rfl) (by have q1 := fun W => requal_vc p q W; rw [he] at q1; go_simp) ?_
      (try simp only [Act.put, List.getElem_toArray, List.getElem_cons_succ, List.getElem_cons_zero, List.setIfInBounds_toArray, List.set_cons_zero, List.set_cons_succ])
      refine wpList_val (.bool false) (by rfl) (by go_simp) ?_
      (try simp only [Act.put, List.getElem_toArray, List.getElem_cons_succ, List.getElem_cons_zero, List.setIfInBounds_toArray, List.set_cons_zero, List.set_cons_succ])
      refine wpList_skip (by kernel_rfl) ?_
      (try simp only [Act.put, List.getElem_toArray, List.getElem_cons_succ, List.getElem_cons_zero, List.setIfInBounds_toArray, List.set_cons_zero, List.set_cons_succ])
      refine wpList_skip (by kernel_rfl) ?_
      (try simp only [Act.put, List.getElem_toArray, List.getElem_cons_succ, List.getElem_cons_zero, List.setIfInBounds_toArray, List.set_cons_zero, List.set_cons_succ])
      refine wpList_skip (by kernel_rfl) ?_
      (try simp only [Act.put, List.getElem_toArray, List.getElem_cons_succ, List.getElem_cons_zero, List.setIfInBounds_toArray, List.set_cons_zero, List.set_cons_succ])
      refine wpList_skip (by kernel_rfl) ?_
      (try simp only [Act.put, List.getElem_toArray, List.getElem_cons_succ, List.getElem_cons_zero, List.setIfInBounds_toArray, List.set_cons_zero, List.set_cons_succ])
      refine wpList_skip (by kernel_rfl) ?_
      (try simp only [Act.put, List.getElem_toArray, List.getElem_cons_succ, List.getElem_cons_zero, List.setIfInBounds_toArray, List.set_cons_zero, List.set_cons_succ])
      refine wpList_val (.bool false) (by rfl) (run_pick_no (.tmp 24) (.tmp 29) (.const (.bool false)) _ rfl rfl rfl) ?_
      (try simp only [Act.put, List.getElem_toArray, List.getElem_cons_succ, List.getElem_cons_zero, List.setIfInBounds_toArray, List.set_cons_zero, List.set_cons_succ])
      refine wpList_val (.bool false) (by rfl) (run_pick_no (.tmp 20) (.const (.bool true)) (.tmp 30) _ rfl rfl rfl) ?_
      (try simp only [Act.put, List.getElem_toArray, List.getElem_cons_succ, List.getElem_cons_zero, List.setIfInBounds_toArray, List.set_cons_zero, List.set_cons_succ])
      refine wpList_val (.bool false) (by rfl) (by go_simp) ?_
      (try simp only [Act.put, List.getElem_toArray, List.getElem_cons_succ, List.getElem_cons_zero, List.setIfInBounds_toArray, List.set_cons_zero, List.set_cons_succ])
      refine wpList_nil ?_
      go_wp2_with fail
      go_ret
      exact ⟨ret_bool (by simp [hls, he]), K4.out.below⟩
    case true =>
      by_cases hi : x.i < y.i
      case pos =>
        have hii : (x.i : Int) < (y.i : Int) := by omega
        refine wp_region_lit ?_
        refine wpList_val (.agg (vcA p)) (by rfl) (kb_all K3.out 2 rfl 42 _ rfl rfl Try.underlying42 rfl (sizeVr)) ?_
        (try simp only [Act.put, List.getElem_toArray, List.getElem_cons_succ, List.getElem_cons_zero, List.setIfInBounds_toArray, List.set_cons_zero, List.set_cons_succ])
        refine wpList_val (.agg (vcA q)) (by rfl) (kb_all K3.out 3 rfl 42 _ rfl rfl Try.underlying42 rfl (sizeVr)) ?_
        (try simp only [Act.put, List.getElem_toArray, List.getElem_cons_succ, List.getElem_cons_zero, List.setIfInBounds_toArray, List.set_cons_zero, List.set_cons_succ])
        refine kb_call K3.out 26 #[.agg (vcA p), .agg (vcA q)] (.bool false) (by rfl) (by go_simp) (by have h := rbetter_any p q w3; rw [hls] at h; exact h) ?_
        intro w4 hk
        have K4 := Lib.hid (show Kb w [(b1, rpA x, 77), (b2, rpA y, 77), (b3x, vcA p, 42), (b3y, vcA q, 42)] w4 from hk)
        clear hk
        (try simp only [Act.put, List.getElem_toArray, List.getElem_cons_succ, List.getElem_cons_zero, List.setIfInBounds_toArray, List.set_cons_zero, List.set_cons_succ])
        refine wpList_val (.bool false) (by rfl) (by go_simp) ?_
        (try simp only [Act.put, List.getElem_toArray, List.getElem_cons_succ, List.getElem_cons_zero, List.setIfInBounds_toArray, List.set_cons_zero, List.set_cons_succ])
        refine wpList_val (.agg (vcA p)) (by rfl) (kb_all K4.out 2 rfl 42 _ rfl rfl Try.underlying42 rfl (sizeVr)) ?_
        (try simp only [Act.put, List.getElem_toArray, List.getElem_cons_succ, List.getElem_cons_zero, List.setIfInBounds_toArray, List.set_cons_zero, List.set_cons_succ])
        refine wpList_val (.agg (vcA q)) (by rfl) (kb_all K4.out 3 rfl 42 _ rfl rfl Try.underlying42 rfl (sizeVr)) ?_
        (try simp only [Act.put, List.getElem_toArray, List.getElem_cons_succ, List.getElem_cons_zero, List.setIfInBounds_toArray, List.set_cons_zero, List.set_cons_succ])
        refine wpList_val (.bool true) (by rfl) (by have q1 := fun W => requal_vc p q W; rw [he] at q1; go_simp) ?_
        (try simp only [Act.put, List.getElem_toArray, List.getElem_cons_succ, List.getElem_cons_zero, List.setIfInBounds_toArray, List.set_cons_zero, List.set_cons_succ])
        refine wpList_val (.bool true) (by rfl) (by go_simp) ?_
        (try simp only [Act.put, List.getElem_toArray, List.getElem_cons_succ, List.getElem_cons_zero, List.setIfInBounds_toArray, List.set_cons_zero, List.set_cons_succ])
        refine wpList_val (.pointer (some ⟨b1, 7, none⟩)) (by rfl) (by go_simp) ?_
        (try simp only [Act.put, List.getElem_toArray, List.getElem_cons_succ, List.getElem_cons_zero, List.setIfInBounds_toArray, List.set_cons_zero, List.set_cons_succ])
        refine wpList_val (.int .u16 (x.i : Nat)) (by rfl) (by have q : w4.cell? ⟨b1, 7, none⟩ = some (.int .u16 (x.i : Nat)) := K4.out.cell (i := 0) rfl (by rfl); go_simp) ?_
        (try simp only [Act.put, List.getElem_toArray, List.getElem_cons_succ, List.getElem_cons_zero, List.setIfInBounds_toArray, List.set_cons_zero, List.set_cons_succ])
        refine wpList_val (.pointer (some ⟨b2, 7, none⟩)) (by rfl) (by go_simp) ?_
        (try simp only [Act.put, List.getElem_toArray, List.getElem_cons_succ, List.getElem_cons_zero, List.setIfInBounds_toArray, List.set_cons_zero, List.set_cons_succ])
        refine wpList_val (.int .u16 (y.i : Nat)) (by rfl) (by have q : w4.cell? ⟨b2, 7, none⟩ = some (.int .u16 (y.i : Nat)) := K4.out.cell (i := 1) rfl (by rfl); go_simp) ?_
        (try simp only [Act.put, List.getElem_toArray, List.getElem_cons_succ, List.getElem_cons_zero, List.setIfInBounds_toArray, List.set_cons_zero, List.set_cons_succ])
        refine wpList_val (.bool true) (by rfl) (by have q1 := hii; go_simp) ?_
        (try simp only [Act.put, List.getElem_toArray, List.getElem_cons_succ, List.getElem_cons_zero, List.setIfInBounds_toArray, List.set_cons_zero, List.set_cons_succ])
        refine wpList_val (.bool true) (by rfl) (run_pick_yes (.tmp 24) (.tmp 29) (.const (.bool false)) _ rfl rfl rfl) ?_
        (try simp only [Act.put, List.getElem_toArray, List.getElem_cons_succ, List.getElem_cons_zero, List.setIfInBounds_toArray, List.set_cons_zero, List.set_cons_succ])
        refine wpList_val (.bool true) (by rfl) (run_pick_no (.tmp 20) (.const (.bool true)) (.tmp 30) _ rfl rfl rfl) ?_
        (try simp only [Act.put, List.getElem_toArray, List.getElem_cons_succ, List.getElem_cons_zero, List.setIfInBounds_toArray, List.set_cons_zero, List.set_cons_succ])
        refine wpList_val (.bool true) (by rfl) (by go_simp) ?_
        (try simp only [Act.put, List.getElem_toArray, List.getElem_cons_succ, List.getElem_cons_zero, List.setIfInBounds_toArray, List.set_cons_zero, List.set_cons_succ])
        refine wpList_nil ?_
        go_wp2_with fail
        go_ret
        exact ⟨ret_bool (by simp [hls, he, hi]), K4.out.below⟩
      case neg =>
        have hii : ¬ (x.i : Int) < (y.i : Int) := by omega
        refine wp_region_lit ?_
        refine wpList_val (.agg (vcA p)) (by rfl) (kb_all K3.out 2 rfl 42 _ rfl rfl Try.underlying42 rfl (sizeVr)) ?_
        (try simp only [Act.put, List.getElem_toArray, List.getElem_cons_succ, List.getElem_cons_zero, List.setIfInBounds_toArray, List.set_cons_zero, List.set_cons_succ])
        refine wpList_val (.agg (vcA q)) (by rfl) (kb_all K3.out 3 rfl 42 _ rfl rfl Try.underlying42 rfl (sizeVr)) ?_
        (try simp only [Act.put, List.getElem_toArray, List.getElem_cons_succ, List.getElem_cons_zero, List.setIfInBounds_toArray, List.set_cons_zero, List.set_cons_succ])
        refine kb_call K3.out 26 #[.agg (vcA p), .agg (vcA q)] (.bool false) (by rfl) (by go_simp) (by have h := rbetter_any p q w3; rw [hls] at h; exact h) ?_
        intro w4 hk
        have K4 := Lib.hid (show Kb w [(b1, rpA x, 77), (b2, rpA y, 77), (b3x, vcA p, 42), (b3y, vcA q, 42)] w4 from hk)
        clear hk
        (try simp only [Act.put, List.getElem_toArray, List.getElem_cons_succ, List.getElem_cons_zero, List.setIfInBounds_toArray, List.set_cons_zero, List.set_cons_succ])
        refine wpList_val (.bool false) (by rfl) (by go_simp) ?_
        (try simp only [Act.put, List.getElem_toArray, List.getElem_cons_succ, List.getElem_cons_zero, List.setIfInBounds_toArray, List.set_cons_zero, List.set_cons_succ])
        refine wpList_val (.agg (vcA p)) (by rfl) (kb_all K4.out 2 rfl 42 _ rfl rfl Try.underlying42 rfl (sizeVr)) ?_
        (try simp only [Act.put, List.getElem_toArray, List.getElem_cons_succ, List.getElem_cons_zero, List.setIfInBounds_toArray, List.set_cons_zero, List.set_cons_succ])
        refine wpList_val (.agg (vcA q)) (by rfl) (kb_all K4.out 3 rfl 42 _ rfl rfl Try.underlying42 rfl (sizeVr)) ?_
        (try simp only [Act.put, List.getElem_toArray, List.getElem_cons_succ, List.getElem_cons_zero, List.setIfInBounds_toArray, List.set_cons_zero, List.set_cons_succ])
        refine wpList_val (.bool true) (by rfl) (by have q1 := fun W => requal_vc p q W; rw [he] at q1; go_simp) ?_
        (try simp only [Act.put, List.getElem_toArray, List.getElem_cons_succ, List.getElem_cons_zero, List.setIfInBounds_toArray, List.set_cons_zero, List.set_cons_succ])
        refine wpList_val (.bool true) (by rfl) (by go_simp) ?_
        (try simp only [Act.put, List.getElem_toArray, List.getElem_cons_succ, List.getElem_cons_zero, List.setIfInBounds_toArray, List.set_cons_zero, List.set_cons_succ])
        refine wpList_val (.pointer (some ⟨b1, 7, none⟩)) (by rfl) (by go_simp) ?_
        (try simp only [Act.put, List.getElem_toArray, List.getElem_cons_succ, List.getElem_cons_zero, List.setIfInBounds_toArray, List.set_cons_zero, List.set_cons_succ])
        refine wpList_val (.int .u16 (x.i : Nat)) (by rfl) (by have q : w4.cell? ⟨b1, 7, none⟩ = some (.int .u16 (x.i : Nat)) := K4.out.cell (i := 0) rfl (by rfl); go_simp) ?_
        (try simp only [Act.put, List.getElem_toArray, List.getElem_cons_succ, List.getElem_cons_zero, List.setIfInBounds_toArray, List.set_cons_zero, List.set_cons_succ])
        refine wpList_val (.pointer (some ⟨b2, 7, none⟩)) (by rfl) (by go_simp) ?_
        (try simp only [Act.put, List.getElem_toArray, List.getElem_cons_succ, List.getElem_cons_zero, List.setIfInBounds_toArray, List.set_cons_zero, List.set_cons_succ])
        refine wpList_val (.int .u16 (y.i : Nat)) (by rfl) (by have q : w4.cell? ⟨b2, 7, none⟩ = some (.int .u16 (y.i : Nat)) := K4.out.cell (i := 1) rfl (by rfl); go_simp) ?_
        (try simp only [Act.put, List.getElem_toArray, List.getElem_cons_succ, List.getElem_cons_zero, List.setIfInBounds_toArray, List.set_cons_zero, List.set_cons_succ])
        refine wpList_val (.bool false) (by rfl) (by have q1 := hii; go_simp) ?_
        (try simp only [Act.put, List.getElem_toArray, List.getElem_cons_succ, List.getElem_cons_zero, List.setIfInBounds_toArray, List.set_cons_zero, List.set_cons_succ])
        refine wpList_val (.bool false) (by rfl) (run_pick_yes (.tmp 24) (.tmp 29) (.const (.bool false)) _ rfl rfl rfl) ?_
        (try simp only [Act.put, List.getElem_toArray, List.getElem_cons_succ, List.getElem_cons_zero, List.setIfInBounds_toArray, List.set_cons_zero, List.set_cons_succ])
        refine wpList_val (.bool false) (by rfl) (run_pick_no (.tmp 20) (.const (.bool true)) (.tmp 30) _ rfl rfl rfl) ?_
        (try simp only [Act.put, List.getElem_toArray, List.getElem_cons_succ, List.getElem_cons_zero, List.setIfInBounds_toArray, List.set_cons_zero, List.set_cons_succ])
        refine wpList_val (.bool false) (by rfl) (by go_simp) ?_
        (try simp only [Act.put, List.getElem_toArray, List.getElem_cons_succ, List.getElem_cons_zero, List.setIfInBounds_toArray, List.set_cons_zero, List.set_cons_succ])
        refine wpList_nil ?_
        go_wp2_with fail
        go_ret
        exact ⟨ret_bool (by simp [hls, he, hi]), K4.out.below⟩
  case true =>
    refine wp_region_lit ?_
    refine wpList_val (.agg (vcA p)) (by rfl) (kb_all K3.out 2 rfl 42 _ rfl rfl Try.underlying42 rfl (sizeVr)) ?_
    (try simp only [Act.put, List.getElem_toArray, List.getElem_cons_succ, List.getElem_cons_zero, List.setIfInBounds_toArray, List.set_cons_zero, List.set_cons_succ])
    refine wpList_val (.agg (vcA q)) (by rfl) (kb_all K3.out 3 rfl 42 _ rfl rfl Try.underlying42 rfl (sizeVr)) ?_
    (try simp only [Act.put, List.getElem_toArray, List.getElem_cons_succ, List.getElem_cons_zero, List.setIfInBounds_toArray, List.set_cons_zero, List.set_cons_succ])
    refine kb_call K3.out 26 #[.agg (vcA p), .agg (vcA q)] (.bool true) (by rfl) (by go_simp) (by have h := rbetter_any p q w3; rw [hls] at h; exact h) ?_
    intro w4 hk
    have K4 := Lib.hid (show Kb w [(b1, rpA x, 77), (b2, rpA y, 77), (b3x, vcA p, 42), (b3y, vcA q, 42)] w4 from hk)
    clear hk
    (try simp only [Act.put, List.getElem_toArray, List.getElem_cons_succ, List.getElem_cons_zero, List.setIfInBounds_toArray, List.set_cons_zero, List.set_cons_succ])
    refine wpList_val (.bool true) (by rfl) (by go_simp) ?_
    (try simp only [Act.put, List.getElem_toArray, List.getElem_cons_succ, List.getElem_cons_zero, List.setIfInBounds_toArray, List.set_cons_zero, List.set_cons_succ])
    refine wpList_skip (by kernel_rfl) ?_
    (try simp only [Act.put, List.getElem_toArray, List.getElem_cons_succ, List.getElem_cons_zero, List.setIfInBounds_toArray, List.set_cons_zero, List.set_cons_succ])
    refine wpList_skip (by kernel_rfl) ?_
    (try simp only [Act.put, List.getElem_toArray, List.getElem_cons_succ, List.getElem_cons_zero, List.setIfInBounds_toArray, List.set_cons_zero, List.set_cons_succ])
    refine wpList_skip (by kernel_rfl) ?_
    (try simp only [Act.put, List.getElem_toArray, List.getElem_cons_succ, List.getElem_cons_zero, List.setIfInBounds_toArray, List.set_cons_zero, List.set_cons_succ])
    refine wpList_skip (by kernel_rfl) ?_
    (try simp only [Act.put, List.getElem_toArray, List.getElem_cons_succ, List.getElem_cons_zero, List.setIfInBounds_toArray, List.set_cons_zero, List.set_cons_succ])
    refine wpList_skip (by kernel_rfl) ?_
    (try simp only [Act.put, List.getElem_toArray, List.getElem_cons_succ, List.getElem_cons_zero, List.setIfInBounds_toArray, List.set_cons_zero, List.set_cons_succ])
    refine wpList_skip (by kernel_rfl) ?_
    (try simp only [Act.put, List.getElem_toArray, List.getElem_cons_succ, List.getElem_cons_zero, List.setIfInBounds_toArray, List.set_cons_zero, List.set_cons_succ])
    refine wpList_skip (by kernel_rfl) ?_
    (try simp only [Act.put, List.getElem_toArray, List.getElem_cons_succ, List.getElem_cons_zero, List.setIfInBounds_toArray, List.set_cons_zero, List.set_cons_succ])
    refine wpList_skip (by kernel_rfl) ?_
    (try simp only [Act.put, List.getElem_toArray, List.getElem_cons_succ, List.getElem_cons_zero, List.setIfInBounds_toArray, List.set_cons_zero, List.set_cons_succ])
    refine wpList_skip (by kernel_rfl) ?_
    (try simp only [Act.put, List.getElem_toArray, List.getElem_cons_succ, List.getElem_cons_zero, List.setIfInBounds_toArray, List.set_cons_zero, List.set_cons_succ])
    refine wpList_skip (by kernel_rfl) ?_
    (try simp only [Act.put, List.getElem_toArray, List.getElem_cons_succ, List.getElem_cons_zero, List.setIfInBounds_toArray, List.set_cons_zero, List.set_cons_succ])
    refine wpList_val (.bool true) (by rfl) (run_pick_yes (.tmp 20) (.const (.bool true)) (.tmp 30) _ rfl rfl rfl) ?_
    (try simp only [Act.put, List.getElem_toArray, List.getElem_cons_succ, List.getElem_cons_zero, List.setIfInBounds_toArray, List.set_cons_zero, List.set_cons_succ])
    refine wpList_val (.bool true) (by rfl) (by go_simp) ?_
    (try simp only [Act.put, List.getElem_toArray, List.getElem_cons_succ, List.getElem_cons_zero, List.setIfInBounds_toArray, List.set_cons_zero, List.set_cons_succ])
    refine wpList_nil ?_
    go_wp2_with fail
    go_ret
    exact ⟨ret_bool (by simp [hls]), K4.out.below⟩
end Go.Proofs.Ytojijeaofkndpaa
