/- What the laws of layer 15 ask first. -/
import Derived.Test.YtojijeaofkndpaaRo8
namespace Go.Proofs.Ytojijeaofkndpaa
open Go.RowKit
attribute [local irreducible] wpQuiet wpList
set_option linter.unusedSimpArgs false
set_option linter.unusedVariables false

theorem wpList_callx {P : Program} {ops : Array Oper} {Q : Exit → Act → World → Prop} {a : Act} {w : World} {rest : List Oper} {o : Oper} (f : FuncId) (args : Array Value) (R : Value → World → Prop) (hw : Region.wanted o (yielded ops a.tmps) = true)
    (hv : (execOp a.eval o).run P w = .ok (.enter f args) w) (hc : Calls P f args w fun e w' => ∃ v, e = .returned v ∧ R v w') (h : ∀ v w', R v w' → wpList P ops Q rest (a.put o.dst v) w') : wpList P ops Q (o :: rest) a w :=
  BigFrame.wpList_want hw fun K hK => by
    unfold Oper.wp
    simp only [hv, Oper.upon]
    exact hc.mono fun e w' ⟨v, he, hr⟩ => by subst he; exact hK _ _ (h v w' hr)
theorem run_bs2 {P : Program} {o : Oper} {a : Act} {w w' : World} (t : TypeId) (x y : Operand) (ho : o.op = .buildSlice t 2 #[(0, x), (1, y)]) (v u s : Value) (hv : a.eval x = v) (hu : a.eval y = u) (h : (Instr.buildSlice t 2 #[(0, v), (1, u)]).run P w = .ok s w') : (execOp a.eval o).run P w = .ok (.value s) w' := by
  subst hv hu
  unfold execOp
  simp only [ho, List.map_toArray, List.map_cons, List.map_nil, Sem.run_bind, h, Result.andThen_ok, Sem.run_pure]
set_option maxRecDepth 100000 in
theorem two_rp (x y : Rp) : ∀ W : World, (Instr.buildSlice 25 2 #[(0, .agg (rpA x)), (1, .agg (rpA y))]).run Try.prog W = .ok (.slice (some ⟨W.heap.size, 0, none⟩) 2 2) (W.alloc (.cells (cellsL rpC [x, y]).toArray 47)) := fun W => by
  have u := Try.underlying25
  rw [show (cellsL rpC [x, y]).toArray = (rpA x ++ rpA y) from by simp [cellsL, rpC]]
  unfold rpA
  go_simp
def sx1 : Rp := ⟨true, false, ⟨0, 0, 0, 0⟩, 0, 1⟩
def sx2 : Rp := ⟨true, true, ⟨2, 5, 3, 1⟩, 7, 2⟩
theorem sp_best : bestU 9 [sx1, sx2] 2 = some (1, sx2) := by kernel_rfl
theorem sp_roles : rolesE 9 2 12 2 [sx1, sx2] 2 = [4, 3] := by kernel_rfl
theorem sp_tells : tellsK 9 2 12 [sx1, sx2] 2 = [⟨2, 12, 9, 1⟩, ⟨2, 12, 9, 2⟩] := by kernel_rfl
theorem sp_ok : ∀ x ∈ [sx1, sx2], x.ok := by
  intro x hx
  simp at hx
  rcases hx with rfl | rfl
  · exact ⟨⟨by decide, by decide, by decide, by decide⟩, by decide, by decide⟩
  · exact ⟨⟨by decide, by decide, by decide, by decide⟩, by decide, by decide⟩
set_option maxRecDepth 100000 in
set_option maxHeartbeats 8000000 in
theorem speaks15_any (w : World) : Calls Try.prog 9 #[] w fun e w' => e = .returned (.bool true) ∧ Below w.heap.size w w' := by
  have K := Lib.hid (Kb.nil w)
  go_enter Try.func9, Try.ntmps9
  go_upto_region 0 with fail
  refine wp_region_lit ?_
  refine wpList_val (.bool false) (by rfl) (by go_simp) ?_
  (try simp only [Act.put, List.getElem_toArray, List.getElem_cons_succ, List.getElem_cons_zero, List.setIfInBounds_toArray, List.set_cons_zero, List.set_cons_succ])
  refine wpList_nil ?_
  go_upto_region 1 with fail
  refine wp_region_lit ?_
  refine wpList_val (.agg (rpA sx1)) (by rfl) (run_build_of 47 [(0, .const (.bool true)), (4, .const (.int .u16 1))] rfl _ (rpA sx1) rfl (by kernel_rfl)) ?_
  (try simp only [Act.put, List.getElem_toArray, List.getElem_cons_succ, List.getElem_cons_zero, List.setIfInBounds_toArray, List.set_cons_zero, List.set_cons_succ])
  refine wpList_val (.agg (vcA ⟨2, 5, 3, 1⟩)) (by rfl) (run_build_of 44 [(0, .const (.int .u64 2)), (1, .const (.int .u32 5)), (2, .const (.int .u64 3)), (3, .const (.int .u16 1))] rfl _ (vcA ⟨2, 5, 3, 1⟩) rfl (by kernel_rfl)) ?_
  (try simp only [Act.put, List.getElem_toArray, List.getElem_cons_succ, List.getElem_cons_zero, List.setIfInBounds_toArray, List.set_cons_zero, List.set_cons_succ])
  refine wpList_val (.agg (rpA sx2)) (by rfl) (run_build_of 47 [(0, .const (.bool true)), (1, .const (.bool true)), (2, .tmp 3), (3, .const (.int .u32 7)), (4, .const (.int .u16 2))] rfl _ (rpA sx2) rfl (by kernel_rfl)) ?_
  (try simp only [Act.put, List.getElem_toArray, List.getElem_cons_succ, List.getElem_cons_zero, List.setIfInBounds_toArray, List.set_cons_zero, List.set_cons_succ])
  refine wpList_made (.slice (some ⟨w.heap.size, 0, none⟩) 2 2) (by rfl) (run_bs2 25 (.tmp 2) (.tmp 4) rfl (.agg (rpA sx1)) (.agg (rpA sx2)) _ rfl rfl (two_rp sx1 sx2 w)) ?_
  (try simp only [Act.put, List.getElem_toArray, List.getElem_cons_succ, List.getElem_cons_zero, List.setIfInBounds_toArray, List.set_cons_zero, List.set_cons_succ])
  obtain ⟨g, hg⟩ : ∃ g, g = w.heap.size := ⟨_, rfl⟩
  have OO : Own (w.alloc (.cells (cellsL rpC [sx1, sx2]).toArray 47)) 0 47 8 rpC (.slice (some ⟨g, 0, none⟩) 2 2) [sx1, sx2] := by
    have h := Own.lit (e := 47) (base := 0) w (Nat.zero_le _) rp_len [sx1, sx2] (by show 2 ≤ maxLen; decide)
    rw [← hg] at h
    exact h
  have K1 := Lib.hid (K.out.next ((Below.refl _ _).alloc (Nat.le_refl _) (.cells (cellsL rpC [sx1, sx2]).toArray 47)))
  rw [← hg]
  generalize w.alloc (.cells (cellsL rpC [sx1, sx2]).toArray 47) = w1 at OO K1 ⊢
  refine wpList_callx 11 #[.int .u64 9, .slice (some ⟨g, 0, none⟩) 2 2] (fun v w' => ∃ u1 u2, v = .agg (chA 2 12 2 u1 u2) ∧ Own w' w1.heap.size 3 1 inC u1 [4, 3] ∧ Own w' w1.heap.size 44 4 vcC u2 [⟨2, 12, 9, 1⟩, ⟨2, 12, 9, 2⟩] ∧ Below w1.heap.size w1 w') (by rfl) (by go_simp) (by
    have h := choose_any 9 [sx1, sx2] 2 2 (some ⟨g, 0, none⟩) w1 0 rfl (by decide) OO sp_ok
    rw [sp_best, show rootN 9 (some (1, sx2)) = 2 from rfl, show costN 9 (some (1, sx2)) = 12 from rfl, show portN 9 (some (1, sx2)) = 2 from rfl, sp_roles, sp_tells] at h
    exact h.mono fun e w' ⟨u1, u2, q1, q2, q3, q4⟩ => ⟨_, q1, u1, u2, rfl, q2, q3, q4⟩) ?_
  rintro v w2 ⟨u1, u2, rfl, oA, oB, hb⟩
  (try simp only [Act.put, List.getElem_toArray, List.getElem_cons_succ, List.getElem_cons_zero, List.setIfInBounds_toArray, List.set_cons_zero, List.set_cons_succ])
  obtain ⟨a1, c1, e1, hc1, -⟩ := oA.shape
  obtain ⟨a2, c2, e2, hc2, -⟩ := oB.shape
  subst e1 e2
  obtain ⟨g1, e1, -, -, r1⟩ := Own.elem (k := 0) (x := 4) in_len oA rfl
  obtain ⟨g1', e1', -, -, r1'⟩ := Own.elem (k := 1) (x := 3) in_len oA rfl
  obtain ⟨g2, e2, -, -, r2⟩ := Own.elem (k := 0) (x := ⟨2, 12, 9, 1⟩) vc_len oB rfl
  subst e1 e2
  injection e1' with e1'
  injection e1' with e1' _ _
  subst e1'
  have K2 := Lib.hid (K1.out.next hb)
  have R1 := Lib.hid r1
  have R1' := Lib.hid r1'
  have R2 := Lib.hid r2
  clear oA oB r1 r1' r2 hb OO
  have KN := Lib.hid (Kb.nil w2)
  refine kb_alloc KN.out 34 (nilCh) rfl z34c (by rfl) ?_
  intro b3 w3 hb3 hk
  have K3 := Lib.hid (show Kb w2 [(b3, nilCh, 34)] w3 from hk)
  clear hk hb3
  (try simp only [Act.put, List.getElem_toArray, List.getElem_cons_succ, List.getElem_cons_zero, List.setIfInBounds_toArray, List.set_cons_zero, List.set_cons_succ])
  refine kb_row K3.out 0 rfl 34 _ _ (chA 2 12 2 (.slice (some ⟨g1, 0, none⟩) 2 c1) (.slice (some ⟨g2, 0, none⟩) 2 c2)) rfl rfl rfl rfl (size34c) (by rfl) (by kernel_rfl) ?_
  intro w4 hk
  have K4 := Lib.hid (show Kb w2 [(b3, chA 2 12 2 (.slice (some ⟨g1, 0, none⟩) 2 c1) (.slice (some ⟨g2, 0, none⟩) 2 c2), 34)] w4 from hk)
  clear hk
  (try simp only [Act.put, List.getElem_toArray, List.getElem_cons_succ, List.getElem_cons_zero, List.setIfInBounds_toArray, List.set_cons_zero, List.set_cons_succ])
  refine wpList_nil ?_
  go_upto_region 2 with fail
  have B3 := Lib.hid (show Below w2.heap.size w2 w4 from K4.out.below)
  refine wp_region_lit ?_
  refine wpList_val (.pointer (some ⟨b3, 0, none⟩)) (by rfl) (by go_simp) ?_
  (try simp only [Act.put, List.getElem_toArray, List.getElem_cons_succ, List.getElem_cons_zero, List.setIfInBounds_toArray, List.set_cons_zero, List.set_cons_succ])
  refine wpList_val (.int .u64 2) (by rfl) (by have q : w4.cell? ⟨b3, 0, none⟩ = some (.int .u64 2) := K4.out.cell (i := 0) rfl (by rfl); go_simp) ?_
  (try simp only [Act.put, List.getElem_toArray, List.getElem_cons_succ, List.getElem_cons_zero, List.setIfInBounds_toArray, List.set_cons_zero, List.set_cons_succ])
  refine wpList_val (.bool true) (by rfl) (by go_simp) ?_
  (try simp only [Act.put, List.getElem_toArray, List.getElem_cons_succ, List.getElem_cons_zero, List.setIfInBounds_toArray, List.set_cons_zero, List.set_cons_succ])
  refine wpList_val (.bool true) (by rfl) (by go_simp) ?_
  (try simp only [Act.put, List.getElem_toArray, List.getElem_cons_succ, List.getElem_cons_zero, List.setIfInBounds_toArray, List.set_cons_zero, List.set_cons_succ])
  refine wpList_val (.pointer (some ⟨b3, 1, none⟩)) (by rfl) (by go_simp) ?_
  (try simp only [Act.put, List.getElem_toArray, List.getElem_cons_succ, List.getElem_cons_zero, List.setIfInBounds_toArray, List.set_cons_zero, List.set_cons_succ])
  refine wpList_val (.int .u32 12) (by rfl) (by have q : w4.cell? ⟨b3, 1, none⟩ = some (.int .u32 12) := K4.out.cell (i := 0) rfl (by rfl); go_simp) ?_
  (try simp only [Act.put, List.getElem_toArray, List.getElem_cons_succ, List.getElem_cons_zero, List.setIfInBounds_toArray, List.set_cons_zero, List.set_cons_succ])
  refine wpList_val (.bool true) (by rfl) (by go_simp) ?_
  (try simp only [Act.put, List.getElem_toArray, List.getElem_cons_succ, List.getElem_cons_zero, List.setIfInBounds_toArray, List.set_cons_zero, List.set_cons_succ])
  refine wpList_val (.bool true) (by rfl) (run_pick_yes (.tmp 10) (.tmp 13) (.const (.bool false)) _ rfl rfl rfl) ?_
  (try simp only [Act.put, List.getElem_toArray, List.getElem_cons_succ, List.getElem_cons_zero, List.setIfInBounds_toArray, List.set_cons_zero, List.set_cons_succ])
  refine wpList_val (.bool true) (by rfl) (by go_simp) ?_
  (try simp only [Act.put, List.getElem_toArray, List.getElem_cons_succ, List.getElem_cons_zero, List.setIfInBounds_toArray, List.set_cons_zero, List.set_cons_succ])
  refine wpList_val (.pointer (some ⟨b3, 2, none⟩)) (by rfl) (by go_simp) ?_
  (try simp only [Act.put, List.getElem_toArray, List.getElem_cons_succ, List.getElem_cons_zero, List.setIfInBounds_toArray, List.set_cons_zero, List.set_cons_succ])
  refine wpList_val (.int .i64 2) (by rfl) (by have q : w4.cell? ⟨b3, 2, none⟩ = some (.int .i64 2) := K4.out.cell (i := 0) rfl (by rfl); go_simp) ?_
  (try simp only [Act.put, List.getElem_toArray, List.getElem_cons_succ, List.getElem_cons_zero, List.setIfInBounds_toArray, List.set_cons_zero, List.set_cons_succ])
  refine wpList_val (.bool true) (by rfl) (by go_simp) ?_
  (try simp only [Act.put, List.getElem_toArray, List.getElem_cons_succ, List.getElem_cons_zero, List.setIfInBounds_toArray, List.set_cons_zero, List.set_cons_succ])
  refine wpList_val (.bool true) (by rfl) (run_pick_yes (.tmp 15) (.tmp 18) (.const (.bool false)) _ rfl rfl rfl) ?_
  (try simp only [Act.put, List.getElem_toArray, List.getElem_cons_succ, List.getElem_cons_zero, List.setIfInBounds_toArray, List.set_cons_zero, List.set_cons_succ])
  refine wpList_val (.bool true) (by rfl) (by go_simp) ?_
  (try simp only [Act.put, List.getElem_toArray, List.getElem_cons_succ, List.getElem_cons_zero, List.setIfInBounds_toArray, List.set_cons_zero, List.set_cons_succ])
  refine wpList_val (.pointer (some ⟨b3, 3, none⟩)) (by rfl) (by go_simp) ?_
  (try simp only [Act.put, List.getElem_toArray, List.getElem_cons_succ, List.getElem_cons_zero, List.setIfInBounds_toArray, List.set_cons_zero, List.set_cons_succ])
  refine wpList_val (.slice (some ⟨g1, 0, none⟩) 2 c1) (by rfl) (by have q : w4.cell? ⟨b3, 3, none⟩ = some (.slice (some ⟨g1, 0, none⟩) 2 c1) := K4.out.cell (i := 0) rfl (by rfl); go_simp) ?_
  (try simp only [Act.put, List.getElem_toArray, List.getElem_cons_succ, List.getElem_cons_zero, List.setIfInBounds_toArray, List.set_cons_zero, List.set_cons_succ])
  refine wpList_val (.int .i64 2) (by rfl) (by go_simp) ?_
  (try simp only [Act.put, List.getElem_toArray, List.getElem_cons_succ, List.getElem_cons_zero, List.setIfInBounds_toArray, List.set_cons_zero, List.set_cons_succ])
  refine wpList_val (.bool true) (by rfl) (by go_simp) ?_
  (try simp only [Act.put, List.getElem_toArray, List.getElem_cons_succ, List.getElem_cons_zero, List.setIfInBounds_toArray, List.set_cons_zero, List.set_cons_succ])
  refine wpList_val (.bool true) (by rfl) (run_pick_yes (.tmp 20) (.tmp 24) (.const (.bool false)) _ rfl rfl rfl) ?_
  (try simp only [Act.put, List.getElem_toArray, List.getElem_cons_succ, List.getElem_cons_zero, List.setIfInBounds_toArray, List.set_cons_zero, List.set_cons_succ])
  refine wpList_val (.bool true) (by rfl) (by go_simp) ?_
  (try simp only [Act.put, List.getElem_toArray, List.getElem_cons_succ, List.getElem_cons_zero, List.setIfInBounds_toArray, List.set_cons_zero, List.set_cons_succ])
  refine wpList_val (.pointer (some ⟨b3, 3, none⟩)) (by rfl) (by go_simp) ?_
  (try simp only [Act.put, List.getElem_toArray, List.getElem_cons_succ, List.getElem_cons_zero, List.setIfInBounds_toArray, List.set_cons_zero, List.set_cons_succ])
  refine wpList_val (.slice (some ⟨g1, 0, none⟩) 2 c1) (by rfl) (by have q : w4.cell? ⟨b3, 3, none⟩ = some (.slice (some ⟨g1, 0, none⟩) 2 c1) := K4.out.cell (i := 0) rfl (by rfl); go_simp) ?_
  (try simp only [Act.put, List.getElem_toArray, List.getElem_cons_succ, List.getElem_cons_zero, List.setIfInBounds_toArray, List.set_cons_zero, List.set_cons_succ])
  refine wpList_val (.pointer (some ⟨g1, 0, none⟩)) (by rfl) (by have hq1 : (2 : Nat) ≤ c1 := hc1; go_simp) ?_
  (try simp only [Act.put, List.getElem_toArray, List.getElem_cons_succ, List.getElem_cons_zero, List.setIfInBounds_toArray, List.set_cons_zero, List.set_cons_succ])
  refine wpList_val (.int .i64 4) (by rfl) (by have q : w4.cell? ⟨g1, 0, none⟩ = some (.int .i64 4) := R1.out _ B3.out 0 _ rfl; go_simp) ?_
  (try simp only [Act.put, List.getElem_toArray, List.getElem_cons_succ, List.getElem_cons_zero, List.setIfInBounds_toArray, List.set_cons_zero, List.set_cons_succ])
  refine wpList_val (.bool true) (by rfl) (by go_simp) ?_
  (try simp only [Act.put, List.getElem_toArray, List.getElem_cons_succ, List.getElem_cons_zero, List.setIfInBounds_toArray, List.set_cons_zero, List.set_cons_succ])
  refine wpList_val (.bool true) (by rfl) (run_pick_yes (.tmp 26) (.tmp 31) (.const (.bool false)) _ rfl rfl rfl) ?_
  (try simp only [Act.put, List.getElem_toArray, List.getElem_cons_succ, List.getElem_cons_zero, List.setIfInBounds_toArray, List.set_cons_zero, List.set_cons_succ])
  refine wpList_val (.bool true) (by rfl) (by go_simp) ?_
  (try simp only [Act.put, List.getElem_toArray, List.getElem_cons_succ, List.getElem_cons_zero, List.setIfInBounds_toArray, List.set_cons_zero, List.set_cons_succ])
  refine wpList_val (.pointer (some ⟨b3, 3, none⟩)) (by rfl) (by go_simp) ?_
  (try simp only [Act.put, List.getElem_toArray, List.getElem_cons_succ, List.getElem_cons_zero, List.setIfInBounds_toArray, List.set_cons_zero, List.set_cons_succ])
  refine wpList_val (.slice (some ⟨g1, 0, none⟩) 2 c1) (by rfl) (by have q : w4.cell? ⟨b3, 3, none⟩ = some (.slice (some ⟨g1, 0, none⟩) 2 c1) := K4.out.cell (i := 0) rfl (by rfl); go_simp) ?_
  (try simp only [Act.put, List.getElem_toArray, List.getElem_cons_succ, List.getElem_cons_zero, List.setIfInBounds_toArray, List.set_cons_zero, List.set_cons_succ])
  refine wpList_val (.pointer (some ⟨g1, 1, none⟩)) (by rfl) (by have hq1 : (2 : Nat) ≤ c1 := hc1; go_simp) ?_
  (try simp only [Act.put, List.getElem_toArray, List.getElem_cons_succ, List.getElem_cons_zero, List.setIfInBounds_toArray, List.set_cons_zero, List.set_cons_succ])
  refine wpList_val (.int .i64 3) (by rfl) (by have q : w4.cell? ⟨g1, 1, none⟩ = some (.int .i64 3) := R1'.out _ B3.out 0 _ rfl; go_simp) ?_
  (try simp only [Act.put, List.getElem_toArray, List.getElem_cons_succ, List.getElem_cons_zero, List.setIfInBounds_toArray, List.set_cons_zero, List.set_cons_succ])
  refine wpList_val (.bool true) (by rfl) (by go_simp) ?_
  (try simp only [Act.put, List.getElem_toArray, List.getElem_cons_succ, List.getElem_cons_zero, List.setIfInBounds_toArray, List.set_cons_zero, List.set_cons_succ])
  refine wpList_val (.bool true) (by rfl) (run_pick_yes (.tmp 33) (.tmp 38) (.const (.bool false)) _ rfl rfl rfl) ?_
  (try simp only [Act.put, List.getElem_toArray, List.getElem_cons_succ, List.getElem_cons_zero, List.setIfInBounds_toArray, List.set_cons_zero, List.set_cons_succ])
  refine wpList_val (.bool true) (by rfl) (by go_simp) ?_
  (try simp only [Act.put, List.getElem_toArray, List.getElem_cons_succ, List.getElem_cons_zero, List.setIfInBounds_toArray, List.set_cons_zero, List.set_cons_succ])
  refine wpList_val (.pointer (some ⟨b3, 4, none⟩)) (by rfl) (by go_simp) ?_
  (try simp only [Act.put, List.getElem_toArray, List.getElem_cons_succ, List.getElem_cons_zero, List.setIfInBounds_toArray, List.set_cons_zero, List.set_cons_succ])
  refine wpList_val (.slice (some ⟨g2, 0, none⟩) 2 c2) (by rfl) (by have q : w4.cell? ⟨b3, 4, none⟩ = some (.slice (some ⟨g2, 0, none⟩) 2 c2) := K4.out.cell (i := 0) rfl (by rfl); go_simp) ?_
  (try simp only [Act.put, List.getElem_toArray, List.getElem_cons_succ, List.getElem_cons_zero, List.setIfInBounds_toArray, List.set_cons_zero, List.set_cons_succ])
  refine wpList_val (.pointer (some ⟨g2, 0, none⟩)) (by rfl) (by have hq1 : (2 : Nat) ≤ c2 := hc2; go_simp) ?_
  (try simp only [Act.put, List.getElem_toArray, List.getElem_cons_succ, List.getElem_cons_zero, List.setIfInBounds_toArray, List.set_cons_zero, List.set_cons_succ])
  refine wpList_val (.pointer (some ⟨g2, 2, none⟩)) (by rfl) (by go_simp) ?_
  (try simp only [Act.put, List.getElem_toArray, List.getElem_cons_succ, List.getElem_cons_zero, List.setIfInBounds_toArray, List.set_cons_zero, List.set_cons_succ])
  refine wpList_val (.int .u64 9) (by rfl) (by have q : w4.cell? ⟨g2, 2, none⟩ = some (.int .u64 9) := R2.out _ B3.out 2 _ rfl; go_simp) ?_
  (try simp only [Act.put, List.getElem_toArray, List.getElem_cons_succ, List.getElem_cons_zero, List.setIfInBounds_toArray, List.set_cons_zero, List.set_cons_succ])
  refine wpList_val (.bool true) (by rfl) (by go_simp) ?_
  (try simp only [Act.put, List.getElem_toArray, List.getElem_cons_succ, List.getElem_cons_zero, List.setIfInBounds_toArray, List.set_cons_zero, List.set_cons_succ])
  refine wpList_val (.bool true) (by rfl) (run_pick_yes (.tmp 40) (.tmp 46) (.const (.bool false)) _ rfl rfl rfl) ?_
  (try simp only [Act.put, List.getElem_toArray, List.getElem_cons_succ, List.getElem_cons_zero, List.setIfInBounds_toArray, List.set_cons_zero, List.set_cons_succ])
  refine wpList_val (.bool true) (by rfl) (by go_simp) ?_
  (try simp only [Act.put, List.getElem_toArray, List.getElem_cons_succ, List.getElem_cons_zero, List.setIfInBounds_toArray, List.set_cons_zero, List.set_cons_succ])
  refine wpList_nil ?_
  go_wp2_with fail
  go_ret
  exact ⟨rfl, K2.out.below.trans (B3.out.mono K2.out.below.size)⟩
end Go.Proofs.Ytojijeaofkndpaa
