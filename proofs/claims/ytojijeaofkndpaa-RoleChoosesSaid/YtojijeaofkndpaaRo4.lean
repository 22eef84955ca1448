/- The choice: its end. -/
import Derived.Test.YtojijeaofkndpaaRo3
namespace Go.Proofs.Ytojijeaofkndpaa
open Go.RowKit
attribute [local irreducible] wpQuiet wpList
set_option linter.unusedSimpArgs false
set_option linter.unusedVariables false

set_option maxRecDepth 100000 in
set_option maxHeartbeats 8000000 in
theorem ch14 (R C : Nat) (P : Int) (b4 b5 : Nat) (v1 v2 : Value) (m1 : List Int) (m2 : List Vc) (f0 f1 f2 f3 f6 f7 f8 f9 f10 f11 f12 f13 f14 f15 f16 f17 f18 f19 f20 f21 f22 f23 f24 f25 f26 f27 f28 f29 f30 f31 f32 f33 f34 f35 f36 f37 f38 f39 f40 f41 f42 f43 f44 f45 f46 f47 f48 f49 f50 f51 f52 f53 f54 f55 f56 f57 f58 f59 f60 f61 f62 f63 f64 f65 f66 f67 f68 f69 f70 f71 f72 f73 f74 f75 : Value) (w wj : World) (hc : ChW w R C P b4 b5 v1 v2 m1 m2 wj) :
    Code.wp Try.prog (tail11 14) (bodyPost Try.prog Try.f11 fun e w' => ∃ u1 u2, e = .returned (.agg (chA R C P u1 u2)) ∧ Own w' w.heap.size 3 1 inC u1 m1 ∧ Own w' w.heap.size 44 4 vcC u2 m2 ∧ Below w.heap.size w w') { tmps := #[f0, f1, f2, f3, .pointer (some ⟨b4, 0, none⟩), .pointer (some ⟨b5, 0, none⟩), f6, f7, f8, f9, f10, f11, f12, f13, f14, f15, f16, f17, f18, f19, f20, f21, f22, f23, f24, f25, f26, f27, f28, f29, f30, f31, f32, f33, f34, f35, f36, f37, f38, f39, f40, f41, f42, f43, f44, f45, f46, f47, f48, f49, f50, f51, f52, f53, f54, f55, f56, f57, f58, f59, f60, f61, f62, f63, f64, f65, f66, f67, f68, f69, f70, f71, f72, f73, f74, f75], defers := [] } wj := by
  have H0 := Lib.hid hc
  have O1 := Lib.hid hc.o1.oneCell
  have O2 := Lib.hid hc.o2.oneCell
  clear hc
  conv => arg 2; whnf
  conv => arg 4; zeta
  go_upto_region 14 with fail
  refine wp_region_lit ?_
  refine wpList_val (.agg (chA R C P v1 v2)) (by rfl) (run_loadVar_of 34 _ rfl b5 rfl 34 (chA R C P v1 v2) _ H0.out.k5 Try.underlying34 rfl size34c) ?_
  (try simp only [Act.put, List.getElem_toArray, List.getElem_cons_succ, List.getElem_cons_zero, List.setIfInBounds_toArray, List.set_cons_zero, List.set_cons_succ])
  refine wpList_store_row rfl 34 _ _ rfl b4 (chA R C P v1 v2) rfl rfl 34 nilCh H0.out.k4 size34c rfl (by have q1 := O1.out; have q2 := O2.out; simp [chA, Value.oneCell'] at q1 q2 ⊢; first | exact ⟨q1, q2⟩ | simp_all) ?_
  (try simp only [Act.put, List.getElem_toArray, List.getElem_cons_succ, List.getElem_cons_zero, List.setIfInBounds_toArray, List.set_cons_zero, List.set_cons_succ])
  refine wpList_nil ?_
  go_wp2_with fail
  refine bodyPost_ret (v := .agg (chA R C P v1 v2)) (results_cell_row Try.results11 _ _ b4 34 (chA R C P v1 v2) (0, 0) _ rfl (H0.out.k4.row _) Try.underlying34 rfl size34c) rfl ?_
  exact ⟨v1, v2, rfl, H0.out.o1.rowOther H0.out.a14 _, H0.out.o2.rowOther H0.out.a24 _, below_setRow H0.out.below H0.out.n4 _⟩
end Go.Proofs.Ytojijeaofkndpaa
