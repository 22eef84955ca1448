/- InfoLives: the last ticks. -/
import Derived.Test.YtojijeaofkndpaaLv0
namespace Go.Proofs.Ytojijeaofkndpaa
open Go.RowKit
attribute [local irreducible] wpQuiet wpList
set_option linter.unusedSimpArgs false
set_option linter.unusedVariables false

set_option maxRecDepth 100000 in
set_option maxHeartbeats 8000000 in
theorem lv18 (y : Vc) (h tt : Int) (HW : Hid (IntKind.i64.wrap (3 * h) = tt)) (HT : Hid (3 ≤ tt ∧ tt ≤ 30)) (b1 b8 b9 : Nat) (f0 f1 f2 f3 f4 f5 f6 f8 f10 f11 f12 f13 f14 f15 f16 f17 f18 f19 f20 f21 f22 f23 f24 f25 f26 f27 f28 f29 f30 f31 f32 f33 f34 f35 f36 f37 f38 f39 f40 f41 f42 f43 f44 f45 f46 f47 f48 f49 f50 f51 f52 f53 f54 f55 f56 f57 f58 f59 f60 f61 f62 f63 f64 f65 f66 f67 f68 f69 f70 f71 f72 f73 f74 f75 f76 f77 f78 f79 f80 f81 f82 f83 f84 f85 f86 f87 f88 f89 f90 f91 f92 f93 f94 f95 f96 f97 f98 : Value) (w wj : World) (KC : Kb w [(b1, tvA y, 52), (b8, cfA ⟨0, 9, h, 3, 0, 0⟩, 58), (b9, poA ⟨0, 0, false, 0, 0, false, true, true, true, false, 0, 0, 2, (y.r : Nat), (y.c : Nat), (y.b : Nat), (y.p : Nat), 0, tt, 3, 0⟩, 62)] wj) :
    Code.wp Try.prog (tail8 18) (bodyPost Try.prog Try.f8 fun e w' => e = .returned (.bool true) ∧ Below w.heap.size w w') { tmps := #[f0, f1, f2, f3, f4, f5, f6, .int .i64 h, f8, .pointer (some ⟨b9, 0, none⟩), f10, f11, f12, f13, f14, f15, f16, f17, f18, f19, f20, f21, f22, f23, f24, f25, f26, f27, f28, f29, f30, f31, f32, f33, f34, f35, f36, f37, f38, f39, f40, f41, f42, f43, f44, f45, f46, f47, f48, f49, f50, f51, f52, f53, f54, f55, f56, f57, f58, f59, f60, f61, f62, f63, f64, f65, f66, f67, f68, f69, f70, f71, f72, f73, f74, f75, f76, f77, f78, f79, f80, f81, f82, f83, f84, f85, f86, f87, f88, f89, f90, f91, f92, f93, f94, f95, f96, f97, f98], defers := [] } wj := by
  have K0 := Lib.hid KC
  clear KC
  conv => arg 2; whnf
  conv => arg 4; zeta
  go_upto_region 19 with fail
  go_loopw [13] (fun i wr => ∃ (k : Nat) (lf : Int), 1 ≤ k ∧ (k : Int) ≤ tt ∧ lf = tt + 1 - k ∧ i = .int .i64 k ∧ Kb w [(b1, tvA y, 52), (b8, cfA ⟨0, 9, h, 3, 0, 0⟩, 58), (b9, poA ⟨0, 0, false, 0, 0, false, true, true, true, false, 0, 0, 2, (y.r : Nat), (y.c : Nat), (y.b : Nat), (y.p : Nat), 0, lf, 3, 0⟩, 62)] wr) (fun i _ => (tt - intOf i).toNat)
  case atStart => exact ⟨1, tt, by omega, by have := HT.out; omega, by omega, rfl, K0.out⟩
  case round =>
    obtain ⟨k, lf, hk1, hk2, hlf, rfl, hK⟩ := hrel
    have K1 := Lib.hid hK
    have HL2 := Lib.hid (show lf ≤ 30 by have := HT.out; omega)
    have HKF := Lib.hid (show 1 ≤ k ∧ (k : Int) ≤ tt ∧ lf = tt + 1 - k from ⟨hk1, hk2, hlf⟩)
    clear hK hk1 hk2 hlf
    by_cases hlt : (k : Int) < tt
    case pos =>
      have HLT := Lib.hid hlt
      have HL1 := Lib.hid (show 1 < lf by have := HKF.out; omega)
      obtain ⟨lg, hlg⟩ : ∃ g, g = lf - 1 := ⟨_, rfl⟩
      have HG := Lib.hid hlg
      clear hlg hlt
      go_upto_region 19 with fail
      refine wp_region_lit ?_
      refine wpList_val (.int .i64 (k : Nat)) (by rfl) (by go_simp) ?_
      (try simp only [Act.put, List.getElem_toArray, List.getElem_cons_succ, List.getElem_cons_zero, List.setIfInBounds_toArray, List.set_cons_zero, List.set_cons_succ])
      refine wpList_val (.int .i64 h) (by rfl) (by go_simp) ?_
      (try simp only [Act.put, List.getElem_toArray, List.getElem_cons_succ, List.getElem_cons_zero, List.setIfInBounds_toArray, List.set_cons_zero, List.set_cons_succ])
      refine wpList_val (.int .i64 tt) (by rfl) (by rw [← HW.out]; go_simp) ?_
      (try simp only [Act.put, List.getElem_toArray, List.getElem_cons_succ, List.getElem_cons_zero, List.setIfInBounds_toArray, List.set_cons_zero, List.set_cons_succ])
      refine wpList_val (.bool true) (by rfl) (by have q := HLT.out; go_simp) ?_
      (try simp only [Act.put, List.getElem_toArray, List.getElem_cons_succ, List.getElem_cons_zero, List.setIfInBounds_toArray, List.set_cons_zero, List.set_cons_succ])
      refine wpList_nil ?_
      go_upto_region 21 with fail
      refine wp_region_lit ?_
      refine wpList_val (.bool false) (by rfl) (by go_simp) ?_
      (try simp only [Act.put, List.getElem_toArray, List.getElem_cons_succ, List.getElem_cons_zero, List.setIfInBounds_toArray, List.set_cons_zero, List.set_cons_succ])
      refine wpList_nil ?_
      go_upto_region 22 with fail
      refine wp_region_lit ?_
      refine wpList_val (.agg (poA ⟨0, 0, false, 0, 0, false, true, true, true, false, 0, 0, 2, (y.r : Nat), (y.c : Nat), (y.b : Nat), (y.p : Nat), 0, lf, 3, 0⟩)) (by rfl) (kb_all K1.out 2 rfl 62 _ rfl rfl Try.underlying62 rfl (size50)) ?_
      (try simp only [Act.put, List.getElem_toArray, List.getElem_cons_succ, List.getElem_cons_zero, List.setIfInBounds_toArray, List.set_cons_zero, List.set_cons_succ])
      refine kb_call K1.out 18 #[.agg (poA ⟨0, 0, false, 0, 0, false, true, true, true, false, 0, 0, 2, (y.r : Nat), (y.c : Nat), (y.b : Nat), (y.p : Nat), 0, lf, 3, 0⟩)] (.tuple #[.agg (poA ⟨0, 0, false, 0, 0, false, true, true, true, false, 0, 0, 2, (y.r : Nat), (y.c : Nat), (y.b : Nat), (y.p : Nat), 0, lg, 3, 0⟩), .bool false]) (by rfl) (by go_simp) (fade_is ⟨0, 0, false, 0, 0, false, true, true, true, false, 0, 0, 2, (y.r : Nat), (y.c : Nat), (y.b : Nat), (y.p : Nat), 0, lf, 3, 0⟩ ⟨0, 0, false, 0, 0, false, true, true, true, false, 0, 0, 2, (y.r : Nat), (y.c : Nat), (y.b : Nat), (y.p : Nat), 0, lg, 3, 0⟩ false (lives_p y lf lg HL1.out HL2.out HG.out) (lives_b y lf HL1.out) wr) ?_
      intro w2 hk
      have K2 := Lib.hid (show Kb w [(b1, tvA y, 52), (b8, cfA ⟨0, 9, h, 3, 0, 0⟩, 58), (b9, poA ⟨0, 0, false, 0, 0, false, true, true, true, false, 0, 0, 2, (y.r : Nat), (y.c : Nat), (y.b : Nat), (y.p : Nat), 0, lf, 3, 0⟩, 62)] w2 from hk)
      clear hk
      (try simp only [Act.put, List.getElem_toArray, List.getElem_cons_succ, List.getElem_cons_zero, List.setIfInBounds_toArray, List.set_cons_zero, List.set_cons_succ])
      refine wpList_val (.tuple #[.agg (poA ⟨0, 0, false, 0, 0, false, true, true, true, false, 0, 0, 2, (y.r : Nat), (y.c : Nat), (y.b : Nat), (y.p : Nat), 0, lg, 3, 0⟩), .bool false]) (by rfl) (by go_simp) ?_
      (try simp only [Act.put, List.getElem_toArray, List.getElem_cons_succ, List.getElem_cons_zero, List.setIfInBounds_toArray, List.set_cons_zero, List.set_cons_succ])
      refine wpList_val (.agg (poA ⟨0, 0, false, 0, 0, false, true, true, true, false, 0, 0, 2, (y.r : Nat), (y.c : Nat), (y.b : Nat), (y.p : Nat), 0, lg, 3, 0⟩)) (by rfl) (by go_simp) ?_
      (try simp only [Act.put, List.getElem_toArray, List.getElem_cons_succ, List.getElem_cons_zero, List.setIfInBounds_toArray, List.set_cons_zero, List.set_cons_succ])
      refine wpList_val (.bool false) (by rfl) (by go_simp) ?_
      (try simp only [Act.put, List.getElem_toArray, List.getElem_cons_succ, List.getElem_cons_zero, List.setIfInBounds_toArray, List.set_cons_zero, List.set_cons_succ])
      refine kb_row K2.out 2 rfl 62 _ _ (poA ⟨0, 0, false, 0, 0, false, true, true, true, false, 0, 0, 2, (y.r : Nat), (y.c : Nat), (y.b : Nat), (y.p : Nat), 0, lg, 3, 0⟩) rfl rfl rfl rfl (size50) (by rfl) (po_all _) ?_
      intro w3 hk
      have K3 := Lib.hid (show Kb w [(b1, tvA y, 52), (b8, cfA ⟨0, 9, h, 3, 0, 0⟩, 58), (b9, poA ⟨0, 0, false, 0, 0, false, true, true, true, false, 0, 0, 2, (y.r : Nat), (y.c : Nat), (y.b : Nat), (y.p : Nat), 0, lg, 3, 0⟩, 62)] w3 from hk)
      clear hk
      (try simp only [Act.put, List.getElem_toArray, List.getElem_cons_succ, List.getElem_cons_zero, List.setIfInBounds_toArray, List.set_cons_zero, List.set_cons_succ])
      refine wpList_val (.bool false) (by rfl) (by go_simp) ?_
      (try simp only [Act.put, List.getElem_toArray, List.getElem_cons_succ, List.getElem_cons_zero, List.setIfInBounds_toArray, List.set_cons_zero, List.set_cons_succ])
      refine wpList_nil ?_
      go_upto_region 23 with fail
      refine wp_region_lit ?_
      refine wpList_val (.bool false) (by rfl) (by go_simp) ?_
      (try simp only [Act.put, List.getElem_toArray, List.getElem_cons_succ, List.getElem_cons_zero, List.setIfInBounds_toArray, List.set_cons_zero, List.set_cons_succ])
      refine wpList_val (.bool false) (by rfl) (by go_simp) ?_
      (try simp only [Act.put, List.getElem_toArray, List.getElem_cons_succ, List.getElem_cons_zero, List.setIfInBounds_toArray, List.set_cons_zero, List.set_cons_succ])
      refine wpList_val (.pointer (some ⟨b9, 12, none⟩)) (by rfl) (by go_simp) ?_
      (try simp only [Act.put, List.getElem_toArray, List.getElem_cons_succ, List.getElem_cons_zero, List.setIfInBounds_toArray, List.set_cons_zero, List.set_cons_succ])
      refine wpList_val (.int .i64 2) (by rfl) (by have q : w3.cell? ⟨b9, 12, none⟩ = some (.int .i64 2) := K3.out.cell (i := 2) rfl (by rfl); go_simp) ?_
      (try simp only [Act.put, List.getElem_toArray, List.getElem_cons_succ, List.getElem_cons_zero, List.setIfInBounds_toArray, List.set_cons_zero, List.set_cons_succ])
      refine wpList_val (.bool false) (by rfl) (by go_simp) ?_
      (try simp only [Act.put, List.getElem_toArray, List.getElem_cons_succ, List.getElem_cons_zero, List.setIfInBounds_toArray, List.set_cons_zero, List.set_cons_succ])
      refine wpList_val (.bool false) (by rfl) (run_pick_no (.tmp 83) (.const (.bool true)) (.tmp 86) _ rfl rfl rfl) ?_
      (try simp only [Act.put, List.getElem_toArray, List.getElem_cons_succ, List.getElem_cons_zero, List.setIfInBounds_toArray, List.set_cons_zero, List.set_cons_succ])
      refine wpList_nil ?_
      have hkb : (k : Int) < 31 := by have := HKF.out; have := HT.out; omega
      go_wp2_with fail
      go_roundw
      case rel => exact ⟨k + 1, lg, by omega, by have := HLT.out; omega, by have := HKF.out; have := HG.out; omega, by go_num, K3.out⟩
      case measure => have := HLT.out; simp [intOf]; omega
    case neg =>
      obtain rfl : lf = 1 := by have := HKF.out; omega
      have HLT := Lib.hid hlt
      clear hlt
      go_upto_region 19 with fail
      refine wp_region_lit ?_
      refine wpList_val (.int .i64 (k : Nat)) (by rfl) (by go_simp) ?_
      (try simp only [Act.put, List.getElem_toArray, List.getElem_cons_succ, List.getElem_cons_zero, List.setIfInBounds_toArray, List.set_cons_zero, List.set_cons_succ])
      refine wpList_val (.int .i64 h) (by rfl) (by go_simp) ?_
      (try simp only [Act.put, List.getElem_toArray, List.getElem_cons_succ, List.getElem_cons_zero, List.setIfInBounds_toArray, List.set_cons_zero, List.set_cons_succ])
      refine wpList_val (.int .i64 tt) (by rfl) (by rw [← HW.out]; go_simp) ?_
      (try simp only [Act.put, List.getElem_toArray, List.getElem_cons_succ, List.getElem_cons_zero, List.setIfInBounds_toArray, List.set_cons_zero, List.set_cons_succ])
      refine wpList_val (.bool false) (by rfl) (by have q := HLT.out; go_simp) ?_
      (try simp only [Act.put, List.getElem_toArray, List.getElem_cons_succ, List.getElem_cons_zero, List.setIfInBounds_toArray, List.set_cons_zero, List.set_cons_succ])
      refine wpList_nil ?_
      go_upto_region 25 with fail
      refine wp_region_lit ?_
      refine wpList_val (.agg (poA ⟨0, 0, false, 0, 0, false, true, true, true, false, 0, 0, 2, (y.r : Nat), (y.c : Nat), (y.b : Nat), (y.p : Nat), 0, 1, 3, 0⟩)) (by rfl) (kb_all K1.out 2 rfl 62 _ rfl rfl Try.underlying62 rfl (size50)) ?_
      (try simp only [Act.put, List.getElem_toArray, List.getElem_cons_succ, List.getElem_cons_zero, List.setIfInBounds_toArray, List.set_cons_zero, List.set_cons_succ])
      refine kb_call K1.out 18 #[.agg (poA ⟨0, 0, false, 0, 0, false, true, true, true, false, 0, 0, 2, (y.r : Nat), (y.c : Nat), (y.b : Nat), (y.p : Nat), 0, 1, 3, 0⟩)] (.tuple #[.agg (poA ⟨0, 0, false, 0, 0, false, true, true, true, false, 0, 0, 0, 0, 0, 0, 0, 0, 0, 3, 0⟩), .bool true]) (by rfl) (by go_simp) (fade_is ⟨0, 0, false, 0, 0, false, true, true, true, false, 0, 0, 2, (y.r : Nat), (y.c : Nat), (y.b : Nat), (y.p : Nat), 0, 1, 3, 0⟩ ⟨0, 0, false, 0, 0, false, true, true, true, false, 0, 0, 0, 0, 0, 0, 0, 0, 0, 3, 0⟩ true (by kernel_rfl) (by kernel_rfl) wr) ?_
      intro w2 hk
      have K2 := Lib.hid (show Kb w [(b1, tvA y, 52), (b8, cfA ⟨0, 9, h, 3, 0, 0⟩, 58), (b9, poA ⟨0, 0, false, 0, 0, false, true, true, true, false, 0, 0, 2, (y.r : Nat), (y.c : Nat), (y.b : Nat), (y.p : Nat), 0, 1, 3, 0⟩, 62)] w2 from hk)
      clear hk
      (try simp only [Act.put, List.getElem_toArray, List.getElem_cons_succ, List.getElem_cons_zero, List.setIfInBounds_toArray, List.set_cons_zero, List.set_cons_succ])
      refine wpList_val (.tuple #[.agg (poA ⟨0, 0, false, 0, 0, false, true, true, true, false, 0, 0, 0, 0, 0, 0, 0, 0, 0, 3, 0⟩), .bool true]) (by rfl) (by go_simp) ?_
      (try simp only [Act.put, List.getElem_toArray, List.getElem_cons_succ, List.getElem_cons_zero, List.setIfInBounds_toArray, List.set_cons_zero, List.set_cons_succ])
      refine wpList_val (.agg (poA ⟨0, 0, false, 0, 0, false, true, true, true, false, 0, 0, 0, 0, 0, 0, 0, 0, 0, 3, 0⟩)) (by rfl) (by go_simp) ?_
      (try simp only [Act.put, List.getElem_toArray, List.getElem_cons_succ, List.getElem_cons_zero, List.setIfInBounds_toArray, List.set_cons_zero, List.set_cons_succ])
      refine wpList_val (.bool true) (by rfl) (by go_simp) ?_
      (try simp only [Act.put, List.getElem_toArray, List.getElem_cons_succ, List.getElem_cons_zero, List.setIfInBounds_toArray, List.set_cons_zero, List.set_cons_succ])
      refine kb_row K2.out 2 rfl 62 _ _ (poA ⟨0, 0, false, 0, 0, false, true, true, true, false, 0, 0, 0, 0, 0, 0, 0, 0, 0, 3, 0⟩) rfl rfl rfl rfl (size50) (by rfl) (po_all _) ?_
      intro w3 hk
      have K3 := Lib.hid (show Kb w [(b1, tvA y, 52), (b8, cfA ⟨0, 9, h, 3, 0, 0⟩, 58), (b9, poA ⟨0, 0, false, 0, 0, false, true, true, true, false, 0, 0, 0, 0, 0, 0, 0, 0, 0, 3, 0⟩, 62)] w3 from hk)
      clear hk
      (try simp only [Act.put, List.getElem_toArray, List.getElem_cons_succ, List.getElem_cons_zero, List.setIfInBounds_toArray, List.set_cons_zero, List.set_cons_succ])
      refine wpList_val (.bool true) (by rfl) (by go_simp) ?_
      (try simp only [Act.put, List.getElem_toArray, List.getElem_cons_succ, List.getElem_cons_zero, List.setIfInBounds_toArray, List.set_cons_zero, List.set_cons_succ])
      refine wpList_nil ?_
      go_upto_region 26 with fail
      refine wp_region_lit ?_
      refine wpList_val (.bool true) (by rfl) (by go_simp) ?_
      (try simp only [Act.put, List.getElem_toArray, List.getElem_cons_succ, List.getElem_cons_zero, List.setIfInBounds_toArray, List.set_cons_zero, List.set_cons_succ])
      refine wpList_val (.bool true) (by rfl) (by go_simp) ?_
      (try simp only [Act.put, List.getElem_toArray, List.getElem_cons_succ, List.getElem_cons_zero, List.setIfInBounds_toArray, List.set_cons_zero, List.set_cons_succ])
      refine wpList_val (.pointer (some ⟨b9, 12, none⟩)) (by rfl) (by go_simp) ?_
      (try simp only [Act.put, List.getElem_toArray, List.getElem_cons_succ, List.getElem_cons_zero, List.setIfInBounds_toArray, List.set_cons_zero, List.set_cons_succ])
      refine wpList_val (.int .i64 0) (by rfl) (by have q : w3.cell? ⟨b9, 12, none⟩ = some (.int .i64 0) := K3.out.cell (i := 2) rfl (by rfl); go_simp) ?_
      (try simp only [Act.put, List.getElem_toArray, List.getElem_cons_succ, List.getElem_cons_zero, List.setIfInBounds_toArray, List.set_cons_zero, List.set_cons_succ])
      refine wpList_val (.bool true) (by rfl) (by go_simp) ?_
      (try simp only [Act.put, List.getElem_toArray, List.getElem_cons_succ, List.getElem_cons_zero, List.setIfInBounds_toArray, List.set_cons_zero, List.set_cons_succ])
      refine wpList_val (.bool true) (by rfl) (run_pick_yes (.tmp 94) (.tmp 97) (.const (.bool false)) _ rfl rfl rfl) ?_
      (try simp only [Act.put, List.getElem_toArray, List.getElem_cons_succ, List.getElem_cons_zero, List.setIfInBounds_toArray, List.set_cons_zero, List.set_cons_succ])
      refine wpList_val (.bool true) (by rfl) (by go_simp) ?_
      (try simp only [Act.put, List.getElem_toArray, List.getElem_cons_succ, List.getElem_cons_zero, List.setIfInBounds_toArray, List.set_cons_zero, List.set_cons_succ])
      refine wpList_nil ?_
      go_wp2_with fail
      go_ret
      exact ⟨ret_bool (rfl), K3.out.below⟩
end Go.Proofs.Ytojijeaofkndpaa
