/- A port begun cold; Switch. -/
import Derived.Test.YtojijeaofkndpaaIn0
import Derived.Test.YtojijeaofkndpaaKb2
namespace Go.Proofs.Ytojijeaofkndpaa
open Go.RowKit
attribute [local irreducible] wpQuiet wpList
set_option linter.unusedSimpArgs false
set_option linter.unusedVariables false

theorem wpList_made {P : Program} {ops : Array Oper} {Q : Exit → Act → World → Prop} {a : Act} {w w' : World} {rest : List Oper} {o : Oper} (v : Value) (hw : Region.wanted o (yielded ops a.tmps) = true)
    (hrun : (execOp a.eval o).run P w = .ok (.value v) w') (h : wpList P ops Q rest (a.put o.dst v) w') : wpList P ops Q (o :: rest) a w :=
  BigFrame.wpList_want hw fun K hK => by unfold Oper.wp; simp only [hrun]; exact hK _ _ h
theorem wpList_callx {P : Program} {ops : Array Oper} {Q : Exit → Act → World → Prop} {a : Act} {w : World} {rest : List Oper} {o : Oper} (f : FuncId) (args : Array Value) (R : Value → World → Prop) (hw : Region.wanted o (yielded ops a.tmps) = true)
    (hv : (execOp a.eval o).run P w = .ok (.enter f args) w) (hc : Calls P f args w fun e w' => ∃ v, e = .returned v ∧ R v w') (h : ∀ v w', R v w' → wpList P ops Q rest (a.put o.dst v) w') : wpList P ops Q (o :: rest) a w :=
  BigFrame.wpList_want hw fun K hK => by
    unfold Oper.wp
    simp only [hv, Oper.upon]
    exact hc.mono fun e w' ⟨v, he, hr⟩ => by subst he; exact hK _ _ (h v w' hr)
/-- A state of one port. -/
def st1P (x : Po) : Go.Proofs.Ytojijeaofkndpaa.St := ⟨⟨0, 0, 0, 0, 0, 0⟩, [x], [], [], [], fun _ => 0, 0⟩
theorem built_s1 (x : Po) (a : Option Addr) (n m : Nat) : Try.prog.built 101 [(1, .slice a n m)] = some (stA (st1P x) (.slice a n m) (.slice none 0 0) (.slice none 0 0) (.slice none 0 0)) := by kernel_rfl
theorem one_el {w : World} {B : Nat} {x : Po} {v : Value} (h : Own w B 62 21 poC v [x]) : ∃ q m, v = .slice (some ⟨q, 0, none⟩) 1 m ∧ 1 ≤ m ∧ m ≤ maxLen ∧ w.rangeAt q 0 (poC x) := by
  rcases h.cases with ⟨-, h2⟩ | ⟨q, m, rfl, -, hq, hm, hx⟩
  · cases h2
  · refine ⟨q, m, rfl, hm, hx, fun j u hj => ?_⟩
    have hl : j < (poC x).length := (List.getElem?_eq_some_iff.1 hj).1
    have := Own.at (enc := poC) po_len h 0 j x rfl (by rw [← po_len x]; exact hl)
    simp only [Nat.zero_mul, Nat.zero_add] at this ⊢
    rw [this]
    exact hj
set_option maxRecDepth 100000 in
set_option maxHeartbeats 8000000 in
theorem icold_any (x : Po) (w : World) : Calls Try.prog 29 #[poV x] w fun e w' => e = .returned (poV (coldP x)) ∧ Below w.heap.size w w' := by
  have K := Lib.hid (Kb.nil w)
  go_enter Try.func29, Try.ntmps29
  go_upto_region 0 with fail
  refine wp_region_lit ?_
  refine kb_box K.out 62 (.tmp 0) (poA x) rfl rfl (by rfl) ?_
  intro b1 w1 hb1 hk
  have K1 := Lib.hid (show Kb w [(b1, poA x, 62)] w1 from hk)
  clear hk hb1
  (try simp only [Act.put, List.getElem_toArray, List.getElem_cons_succ, List.getElem_cons_zero, List.setIfInBounds_toArray, List.set_cons_zero, List.set_cons_succ])
  refine kb_alloc K1.out 62 (nil21) rfl z50 (by rfl) ?_
  intro b2 w2 hb2 hk
  have K2 := Lib.hid (show Kb w [(b1, poA x, 62), (b2, nil21, 62)] w2 from hk)
  clear hk hb2
  (try simp only [Act.put, List.getElem_toArray, List.getElem_cons_succ, List.getElem_cons_zero, List.setIfInBounds_toArray, List.set_cons_zero, List.set_cons_succ])
  refine wpList_nil ?_
  go_upto_region 1 with fail
  refine wp_region_lit ?_
  refine wpList_val (.agg (poA x)) (by rfl) (kb_all K2.out 0 rfl 62 _ rfl rfl Try.underlying62 rfl (size50)) ?_
  (try simp only [Act.put, List.getElem_toArray, List.getElem_cons_succ, List.getElem_cons_zero, List.setIfInBounds_toArray, List.set_cons_zero, List.set_cons_succ])
  refine wpList_made (.slice (some ⟨w2.heap.size, 0, none⟩) 1 1) (by rfl) (run_bs1 94 (.tmp 3) rfl (poV x) _ rfl (one_po x w2)) ?_
  (try simp only [Act.put, List.getElem_toArray, List.getElem_cons_succ, List.getElem_cons_zero, List.setIfInBounds_toArray, List.set_cons_zero, List.set_cons_succ])
  obtain ⟨g, hg⟩ : ∃ g, g = w2.heap.size := ⟨_, rfl⟩
  have OO : OwS (w2.alloc (.cells (poA x) 62)) 0 (st1P x) (.slice (some ⟨g, 0, none⟩) 1 1) (.slice none 0 0) (.slice none 0 0) (.slice none 0 0) := ⟨by have h := Own.lit (e := 62) (base := 0) w2 (Nat.zero_le _) po_len [x] (by show 1 ≤ maxLen; decide); rw [← hg] at h; exact h, Own.nil _ _ _ _ _, Own.nil _ _ _ _ _, Own.nil _ _ _ _ _, by unfold st1P; simp⟩
  have K3 := Lib.hid (K2.out.next ((Below.refl _ _).alloc (Nat.le_refl _) (.cells (poA x) 62)))
  rw [← hg]
  generalize w2.alloc (.cells (poA x) 62) = w3 at OO K3 ⊢
  refine wpList_val (stV (st1P x) (.slice (some ⟨g, 0, none⟩) 1 1) (.slice none 0 0) (.slice none 0 0) (.slice none 0 0)) (by rfl) (run_build_of 101 [(1, .tmp 4)] rfl _ _ rfl (built_s1 x _ _ _)) ?_
  (try simp only [Act.put, List.getElem_toArray, List.getElem_cons_succ, List.getElem_cons_zero, List.setIfInBounds_toArray, List.set_cons_zero, List.set_cons_succ])
  refine wpList_callx 33 #[stV (st1P x) (.slice (some ⟨g, 0, none⟩) 1 1) (.slice none 0 0) (.slice none 0 0) (.slice none 0 0)] (fun v w' => ∃ u1 u2 u3, v = stV (coldS (st1P x)) u1 u2 u3 (.slice none 0 0) ∧ Own w' w3.heap.size 62 21 poC u1 [coldP x] ∧ Below w3.heap.size w3 w') (by rfl) (by go_simp) ((cold_st OO).mono fun e w' ⟨u1, u2, u3, q1, q2, q3⟩ => ⟨_, q1, u1, u2, u3, rfl, q2.o1, q3⟩) ?_
  rintro v w4 ⟨u1, u2, u3, rfl, oo, hb⟩
  (try simp only [Act.put, List.getElem_toArray, List.getElem_cons_succ, List.getElem_cons_zero, List.setIfInBounds_toArray, List.set_cons_zero, List.set_cons_succ])
  obtain ⟨q, m, rfl, hqm, hmx, hr⟩ := one_el oo
  have K4 := Lib.hid (K3.out.next hb)
  refine wpList_val (.slice (some ⟨q, 0, none⟩) 1 m) (by rfl) (by go_simp; try rfl) ?_
  (try simp only [Act.put, List.getElem_toArray, List.getElem_cons_succ, List.getElem_cons_zero, List.setIfInBounds_toArray, List.set_cons_zero, List.set_cons_succ])
  refine wpList_val (.pointer (some ⟨q, 0, none⟩)) (by rfl) (by go_simp) ?_
  (try simp only [Act.put, List.getElem_toArray, List.getElem_cons_succ, List.getElem_cons_zero, List.setIfInBounds_toArray, List.set_cons_zero, List.set_cons_succ])
  refine wpList_val (poV (coldP x)) (by rfl) (run_loadRange 62 _ rfl q 0 rfl (poA (coldP x)) _ hr Try.underlying62 rfl (po_info _)) ?_
  (try simp only [Act.put, List.getElem_toArray, List.getElem_cons_succ, List.getElem_cons_zero, List.setIfInBounds_toArray, List.set_cons_zero, List.set_cons_succ])
  refine kb_row K4.out 1 rfl 62 _ _ (poA (coldP x)) rfl rfl rfl rfl (po_info _) (by rfl) (po_all _) ?_
  intro w5 hk
  have K5 := Lib.hid (show Kb w [(b1, poA x, 62), (b2, poA (coldP x), 62)] w5 from hk)
  clear hk
  (try simp only [Act.put, List.getElem_toArray, List.getElem_cons_succ, List.getElem_cons_zero, List.setIfInBounds_toArray, List.set_cons_zero, List.set_cons_succ])
  refine wpList_nil ?_
  go_wp2_with fail
  refine bodyPost_ret (v := .agg (poA (coldP x))) (results_cell_row Try.results29 _ _ b2 62 (poA (coldP x)) (0, 0) _ rfl (K5.out.at (i := 1) rfl) Try.underlying62 rfl (po_info _)) rfl ?_
  exact ⟨rfl, K5.out.below⟩
/-- What Switch answers. -/
def switchP (x : Po) (up ad : Bool) (dl : Int) : Po := if (up && ad) = true then (if onP x = true then ⟨x.p0, x.p1, x.p2, x.p3, x.p4, x.p5, ad, up, x.p8, x.p9, x.p10, x.p11, x.p12, x.p13, x.p14, x.p15, x.p16, x.p17, x.p18, x.p19, x.p20⟩ else ⟨x.p0, x.p1, x.p2, x.p3, x.p4, x.p5, ad, up, true, false, 0, 0, 0, 0, 0, 0, 0, 0, 0, dl, 0⟩) else ⟨x.p0, x.p1, x.p2, x.p3, x.p4, x.p5, ad, up, false, false, 0, 0, 0, 0, 0, 0, 0, 0, 0, 0, 0⟩
theorem cold_of (x : Po) (q : Po) (h : coldP x = q) (w : World) : Calls Try.prog 29 #[poV x] w fun e w' => e = .returned (poV q) ∧ Below w.heap.size w w' := h ▸ icold_any x w
set_option maxRecDepth 100000 in
set_option maxHeartbeats 8000000 in
theorem switch_any (x : Po) (up ad : Bool) (c : Cf) (w : World) : Calls Try.prog 19 #[poV x, .bool up, .bool ad, cfV c] w fun e w' => e = .returned (poV (switchP x up ad c.p3)) ∧ Below w.heap.size w w' := by
  have CO := Lib.hid (fun b (h : onP x = b) w => on_is x b h w)
  cases hon : onP x
  case false =>
    cases up
    case false =>
      cases ad
      case false =>
        have hP : switchP x false false c.p3 = ⟨x.p0, x.p1, x.p2, x.p3, x.p4, x.p5, false, false, false, false, 0, 0, 0, 0, 0, 0, 0, 0, 0, 0, 0⟩ := by unfold switchP; simp [hon]
        rw [hP]
        clear hP
        rw [show poV x = .agg (poA ⟨x.p0, x.p1, x.p2, x.p3, x.p4, x.p5, x.p6, x.p7, x.p8, x.p9, x.p10, x.p11, x.p12, x.p13, x.p14, x.p15, x.p16, x.p17, x.p18, x.p19, x.p20⟩) from rfl]
        have K := Lib.hid (Kb.nil w)
        go_enter Try.func19, Try.ntmps19
        go_upto_region 0 with fail
        refine wp_region_lit ?_
        refine kb_box K.out 62 (.tmp 0) (poA ⟨x.p0, x.p1, x.p2, x.p3, x.p4, x.p5, x.p6, x.p7, x.p8, x.p9, x.p10, x.p11, x.p12, x.p13, x.p14, x.p15, x.p16, x.p17, x.p18, x.p19, x.p20⟩) rfl rfl (by rfl) ?_
        intro b1 w1 hb1 hk
        have K1 := Lib.hid (show Kb w [(b1, poA ⟨x.p0, x.p1, x.p2, x.p3, x.p4, x.p5, x.p6, x.p7, x.p8, x.p9, x.p10, x.p11, x.p12, x.p13, x.p14, x.p15, x.p16, x.p17, x.p18, x.p19, x.p20⟩, 62)] w1 from hk)
        clear hk hb1
        (try simp only [Act.put, List.getElem_toArray, List.getElem_cons_succ, List.getElem_cons_zero, List.setIfInBounds_toArray, List.set_cons_zero, List.set_cons_succ])
        refine kb_box K1.out 58 (.tmp 3) (cfA c) rfl rfl (by rfl) ?_
        intro b2 w2 hb2 hk
        have K2 := Lib.hid (show Kb w [(b1, poA ⟨x.p0, x.p1, x.p2, x.p3, x.p4, x.p5, x.p6, x.p7, x.p8, x.p9, x.p10, x.p11, x.p12, x.p13, x.p14, x.p15, x.p16, x.p17, x.p18, x.p19, x.p20⟩, 62), (b2, cfA c, 58)] w2 from hk)
        clear hk hb2
        (try simp only [Act.put, List.getElem_toArray, List.getElem_cons_succ, List.getElem_cons_zero, List.setIfInBounds_toArray, List.set_cons_zero, List.set_cons_succ])
        refine kb_alloc K2.out 62 (nil21) rfl z50 (by rfl) ?_
        intro b3 w3 hb3 hk
        have K3 := Lib.hid (show Kb w [(b1, poA ⟨x.p0, x.p1, x.p2, x.p3, x.p4, x.p5, x.p6, x.p7, x.p8, x.p9, x.p10, x.p11, x.p12, x.p13, x.p14, x.p15, x.p16, x.p17, x.p18, x.p19, x.p20⟩, 62), (b2, cfA c, 58), (b3, nil21, 62)] w3 from hk)
        clear hk hb3
        (try simp only [Act.put, List.getElem_toArray, List.getElem_cons_succ, List.getElem_cons_zero, List.setIfInBounds_toArray, List.set_cons_zero, List.set_cons_succ])
        refine wpList_nil ?_
        go_upto_region 1 with fail
        refine wp_region_lit ?_
        refine wpList_val (.agg (poA ⟨x.p0, x.p1, x.p2, x.p3, x.p4, x.p5, x.p6, x.p7, x.p8, x.p9, x.p10, x.p11, x.p12, x.p13, x.p14, x.p15, x.p16, x.p17, x.p18, x.p19, x.p20⟩)) (by rfl) (kb_all K3.out 0 rfl 62 _ rfl rfl Try.underlying62 rfl (size50)) ?_
        (try simp only [Act.put, List.getElem_toArray, List.getElem_cons_succ, List.getElem_cons_zero, List.setIfInBounds_toArray, List.set_cons_zero, List.set_cons_succ])
        refine kb_call K3.out 27 #[.agg (poA ⟨x.p0, x.p1, x.p2, x.p3, x.p4, x.p5, x.p6, x.p7, x.p8, x.p9, x.p10, x.p11, x.p12, x.p13, x.p14, x.p15, x.p16, x.p17, x.p18, x.p19, x.p20⟩)] (.bool false) (by rfl) (by go_simp) (CO.out false hon w3) ?_
        intro w4 hk
        have K4 := Lib.hid (show Kb w [(b1, poA ⟨x.p0, x.p1, x.p2, x.p3, x.p4, x.p5, x.p6, x.p7, x.p8, x.p9, x.p10, x.p11, x.p12, x.p13, x.p14, x.p15, x.p16, x.p17, x.p18, x.p19, x.p20⟩, 62), (b2, cfA c, 58), (b3, nil21, 62)] w4 from hk)
        clear hk
        (try simp only [Act.put, List.getElem_toArray, List.getElem_cons_succ, List.getElem_cons_zero, List.setIfInBounds_toArray, List.set_cons_zero, List.set_cons_succ])
        refine wpList_val (.bool false) (by rfl) (by go_simp) ?_
        (try simp only [Act.put, List.getElem_toArray, List.getElem_cons_succ, List.getElem_cons_zero, List.setIfInBounds_toArray, List.set_cons_zero, List.set_cons_succ])
        refine wpList_nil ?_
        go_upto_region 2 with fail
        refine wp_region_lit ?_
        refine wpList_val (.bool false) (by rfl) (by go_simp) ?_
        (try simp only [Act.put, List.getElem_toArray, List.getElem_cons_succ, List.getElem_cons_zero, List.setIfInBounds_toArray, List.set_cons_zero, List.set_cons_succ])
        refine wpList_val (.bool false) (by rfl) (by go_simp) ?_
        (try simp only [Act.put, List.getElem_toArray, List.getElem_cons_succ, List.getElem_cons_zero, List.setIfInBounds_toArray, List.set_cons_zero, List.set_cons_succ])
        refine wpList_val (.pointer (some ⟨b1, 7, none⟩)) (by rfl) (by go_simp) ?_
        (try simp only [Act.put, List.getElem_toArray, List.getElem_cons_succ, List.getElem_cons_zero, List.setIfInBounds_toArray, List.set_cons_zero, List.set_cons_succ])
        refine kb_set K4.out 0 rfl 4 _ _ 7 (.bool false) rfl (by rfl) rfl rfl (kb_run_set K4.out (i := 0) rfl 4 7 (.bool x.p7) (.bool false) (by rfl) (fun W h1 h2 => by go_simp)) (poA ⟨x.p0, x.p1, x.p2, x.p3, x.p4, x.p5, x.p6, false, x.p8, x.p9, x.p10, x.p11, x.p12, x.p13, x.p14, x.p15, x.p16, x.p17, x.p18, x.p19, x.p20⟩) (by kernel_rfl) ?_
        intro w5 hk
        have K5 := Lib.hid (show Kb w [(b1, poA ⟨x.p0, x.p1, x.p2, x.p3, x.p4, x.p5, x.p6, false, x.p8, x.p9, x.p10, x.p11, x.p12, x.p13, x.p14, x.p15, x.p16, x.p17, x.p18, x.p19, x.p20⟩, 62), (b2, cfA c, 58), (b3, nil21, 62)] w5 from hk)
        clear hk
        (try simp only [Act.put, List.getElem_toArray, List.getElem_cons_succ, List.getElem_cons_zero, List.setIfInBounds_toArray, List.set_cons_zero, List.set_cons_succ])
        refine wpList_val (.pointer (some ⟨b1, 6, none⟩)) (by rfl) (by go_simp) ?_
        (try simp only [Act.put, List.getElem_toArray, List.getElem_cons_succ, List.getElem_cons_zero, List.setIfInBounds_toArray, List.set_cons_zero, List.set_cons_succ])
        refine kb_set K5.out 0 rfl 4 _ _ 6 (.bool false) rfl (by rfl) rfl rfl (kb_run_set K5.out (i := 0) rfl 4 6 (.bool x.p6) (.bool false) (by rfl) (fun W h1 h2 => by go_simp)) (poA ⟨x.p0, x.p1, x.p2, x.p3, x.p4, x.p5, false, false, x.p8, x.p9, x.p10, x.p11, x.p12, x.p13, x.p14, x.p15, x.p16, x.p17, x.p18, x.p19, x.p20⟩) (by kernel_rfl) ?_
        intro w6 hk
        have K6 := Lib.hid (show Kb w [(b1, poA ⟨x.p0, x.p1, x.p2, x.p3, x.p4, x.p5, false, false, x.p8, x.p9, x.p10, x.p11, x.p12, x.p13, x.p14, x.p15, x.p16, x.p17, x.p18, x.p19, x.p20⟩, 62), (b2, cfA c, 58), (b3, nil21, 62)] w6 from hk)
        clear hk
        (try simp only [Act.put, List.getElem_toArray, List.getElem_cons_succ, List.getElem_cons_zero, List.setIfInBounds_toArray, List.set_cons_zero, List.set_cons_succ])
        refine wpList_nil ?_
        go_upto_region 3 with fail
        refine wp_region_lit ?_
        refine wpList_val (.agg (poA ⟨x.p0, x.p1, x.p2, x.p3, x.p4, x.p5, false, false, x.p8, x.p9, x.p10, x.p11, x.p12, x.p13, x.p14, x.p15, x.p16, x.p17, x.p18, x.p19, x.p20⟩)) (by rfl) (kb_all K6.out 0 rfl 62 _ rfl rfl Try.underlying62 rfl (size50)) ?_
        (try simp only [Act.put, List.getElem_toArray, List.getElem_cons_succ, List.getElem_cons_zero, List.setIfInBounds_toArray, List.set_cons_zero, List.set_cons_succ])
        refine kb_call K6.out 27 #[.agg (poA ⟨x.p0, x.p1, x.p2, x.p3, x.p4, x.p5, false, false, x.p8, x.p9, x.p10, x.p11, x.p12, x.p13, x.p14, x.p15, x.p16, x.p17, x.p18, x.p19, x.p20⟩)] (.bool false) (by rfl) (by go_simp) (on_is ⟨x.p0, x.p1, x.p2, x.p3, x.p4, x.p5, false, false, x.p8, x.p9, x.p10, x.p11, x.p12, x.p13, x.p14, x.p15, x.p16, x.p17, x.p18, x.p19, x.p20⟩ false rfl w6) ?_
        intro w7 hk
        have K7 := Lib.hid (show Kb w [(b1, poA ⟨x.p0, x.p1, x.p2, x.p3, x.p4, x.p5, false, false, x.p8, x.p9, x.p10, x.p11, x.p12, x.p13, x.p14, x.p15, x.p16, x.p17, x.p18, x.p19, x.p20⟩, 62), (b2, cfA c, 58), (b3, nil21, 62)] w7 from hk)
        clear hk
        (try simp only [Act.put, List.getElem_toArray, List.getElem_cons_succ, List.getElem_cons_zero, List.setIfInBounds_toArray, List.set_cons_zero, List.set_cons_succ])
        refine wpList_val (.bool true) (by rfl) (by go_simp) ?_
        (try simp only [Act.put, List.getElem_toArray, List.getElem_cons_succ, List.getElem_cons_zero, List.setIfInBounds_toArray, List.set_cons_zero, List.set_cons_succ])
        refine wpList_val (.bool true) (by rfl) (by go_simp) ?_
        (try simp only [Act.put, List.getElem_toArray, List.getElem_cons_succ, List.getElem_cons_zero, List.setIfInBounds_toArray, List.set_cons_zero, List.set_cons_succ])
        refine wpList_nil ?_
        go_upto_region 4 with fail
        refine wp_region_lit ?_
        refine wpList_val (.agg (poA ⟨x.p0, x.p1, x.p2, x.p3, x.p4, x.p5, false, false, x.p8, x.p9, x.p10, x.p11, x.p12, x.p13, x.p14, x.p15, x.p16, x.p17, x.p18, x.p19, x.p20⟩)) (by rfl) (kb_all K7.out 0 rfl 62 _ rfl rfl Try.underlying62 rfl (size50)) ?_
        (try simp only [Act.put, List.getElem_toArray, List.getElem_cons_succ, List.getElem_cons_zero, List.setIfInBounds_toArray, List.set_cons_zero, List.set_cons_succ])
        refine kb_call K7.out 29 #[.agg (poA ⟨x.p0, x.p1, x.p2, x.p3, x.p4, x.p5, false, false, x.p8, x.p9, x.p10, x.p11, x.p12, x.p13, x.p14, x.p15, x.p16, x.p17, x.p18, x.p19, x.p20⟩)] (.agg (poA ⟨x.p0, x.p1, x.p2, x.p3, x.p4, x.p5, false, false, false, false, 0, 0, 0, 0, 0, 0, 0, 0, 0, 0, 0⟩)) (by rfl) (by go_simp) (cold_of ⟨x.p0, x.p1, x.p2, x.p3, x.p4, x.p5, false, false, x.p8, x.p9, x.p10, x.p11, x.p12, x.p13, x.p14, x.p15, x.p16, x.p17, x.p18, x.p19, x.p20⟩ ⟨x.p0, x.p1, x.p2, x.p3, x.p4, x.p5, false, false, false, false, 0, 0, 0, 0, 0, 0, 0, 0, 0, 0, 0⟩ rfl w7) ?_
        intro w8 hk
        have K8 := Lib.hid (show Kb w [(b1, poA ⟨x.p0, x.p1, x.p2, x.p3, x.p4, x.p5, false, false, x.p8, x.p9, x.p10, x.p11, x.p12, x.p13, x.p14, x.p15, x.p16, x.p17, x.p18, x.p19, x.p20⟩, 62), (b2, cfA c, 58), (b3, nil21, 62)] w8 from hk)
        clear hk
        (try simp only [Act.put, List.getElem_toArray, List.getElem_cons_succ, List.getElem_cons_zero, List.setIfInBounds_toArray, List.set_cons_zero, List.set_cons_succ])
        refine kb_row K8.out 2 rfl 62 _ _ (poA ⟨x.p0, x.p1, x.p2, x.p3, x.p4, x.p5, false, false, false, false, 0, 0, 0, 0, 0, 0, 0, 0, 0, 0, 0⟩) rfl rfl rfl rfl (size50) (by rfl) (po_all _) ?_
        intro w9 hk
        have K9 := Lib.hid (show Kb w [(b1, poA ⟨x.p0, x.p1, x.p2, x.p3, x.p4, x.p5, false, false, x.p8, x.p9, x.p10, x.p11, x.p12, x.p13, x.p14, x.p15, x.p16, x.p17, x.p18, x.p19, x.p20⟩, 62), (b2, cfA c, 58), (b3, poA ⟨x.p0, x.p1, x.p2, x.p3, x.p4, x.p5, false, false, false, false, 0, 0, 0, 0, 0, 0, 0, 0, 0, 0, 0⟩, 62)] w9 from hk)
        clear hk
        (try simp only [Act.put, List.getElem_toArray, List.getElem_cons_succ, List.getElem_cons_zero, List.setIfInBounds_toArray, List.set_cons_zero, List.set_cons_succ])
        refine wpList_nil ?_
        go_wp2_with fail
        refine bodyPost_ret (v := .agg (poA ⟨x.p0, x.p1, x.p2, x.p3, x.p4, x.p5, false, false, false, false, 0, 0, 0, 0, 0, 0, 0, 0, 0, 0, 0⟩)) (results_cell_row Try.results19 _ _ b3 62 (poA ⟨x.p0, x.p1, x.p2, x.p3, x.p4, x.p5, false, false, false, false, 0, 0, 0, 0, 0, 0, 0, 0, 0, 0, 0⟩) (0, 0) _ rfl (K9.out.at (i := 2) rfl) Try.underlying62 rfl (po_info _)) rfl ?_
        exact ⟨rfl, K9.out.below⟩
      case true =>
        have hP : switchP x false true c.p3 = ⟨x.p0, x.p1, x.p2, x.p3, x.p4, x.p5, true, false, false, false, 0, 0, 0, 0, 0, 0, 0, 0, 0, 0, 0⟩ := by unfold switchP; simp [hon]
        rw [hP]
        clear hP
        rw [show poV x = .agg (poA ⟨x.p0, x.p1, x.p2, x.p3, x.p4, x.p5, x.p6, x.p7, x.p8, x.p9, x.p10, x.p11, x.p12, x.p13, x.p14, x.p15, x.p16, x.p17, x.p18, x.p19, x.p20⟩) from rfl]
        have K := Lib.hid (Kb.nil w)
        go_enter Try.func19, Try.ntmps19
        go_upto_region 0 with fail
        refine wp_region_lit ?_
        refine kb_box K.out 62 (.tmp 0) (poA ⟨x.p0, x.p1, x.p2, x.p3, x.p4, x.p5, x.p6, x.p7, x.p8, x.p9, x.p10, x.p11, x.p12, x.p13, x.p14, x.p15, x.p16, x.p17, x.p18, x.p19, x.p20⟩) rfl rfl (by rfl) ?_
        intro b1 w1 hb1 hk
        have K1 := Lib.hid (show Kb w [(b1, poA ⟨x.p0, x.p1, x.p2, x.p3, x.p4, x.p5, x.p6, x.p7, x.p8, x.p9, x.p10, x.p11, x.p12, x.p13, x.p14, x.p15, x.p16, x.p17, x.p18, x.p19, x.p20⟩, 62)] w1 from hk)
        clear hk hb1
        (try simp only [Act.put, List.getElem_toArray, List.getElem_cons_succ, List.getElem_cons_zero, List.setIfInBounds_toArray, List.set_cons_zero, List.set_cons_succ])
        refine kb_box K1.out 58 (.tmp 3) (cfA c) rfl rfl (by rfl) ?_
        intro b2 w2 hb2 hk
        have K2 := Lib.hid (show Kb w [(b1, poA ⟨x.p0, x.p1, x.p2, x.p3, x.p4, x.p5, x.p6, x.p7, x.p8, x.p9, x.p10, x.p11, x.p12, x.p13, x.p14, x.p15, x.p16, x.p17, x.p18, x.p19, x.p20⟩, 62), (b2, cfA c, 58)] w2 from hk)
        clear hk hb2
        (try simp only [Act.put, List.getElem_toArray, List.getElem_cons_succ, List.getElem_cons_zero, List.setIfInBounds_toArray, List.set_cons_zero, List.set_cons_succ])
        refine kb_alloc K2.out 62 (nil21) rfl z50 (by rfl) ?_
        intro b3 w3 hb3 hk
        have K3 := Lib.hid (show Kb w [(b1, poA ⟨x.p0, x.p1, x.p2, x.p3, x.p4, x.p5, x.p6, x.p7, x.p8, x.p9, x.p10, x.p11, x.p12, x.p13, x.p14, x.p15, x.p16, x.p17, x.p18, x.p19, x.p20⟩, 62), (b2, cfA c, 58), (b3, nil21, 62)] w3 from hk)
        clear hk hb3
        (try simp only [Act.put, List.getElem_toArray, List.getElem_cons_succ, List.getElem_cons_zero, List.setIfInBounds_toArray, List.set_cons_zero, List.set_cons_succ])
        refine wpList_nil ?_
        go_upto_region 1 with fail
        refine wp_region_lit ?_
        refine wpList_val (.agg (poA ⟨x.p0, x.p1, x.p2, x.p3, x.p4, x.p5, x.p6, x.p7, x.p8, x.p9, x.p10, x.p11, x.p12, x.p13, x.p14, x.p15, x.p16, x.p17, x.p18, x.p19, x.p20⟩)) (by rfl) (kb_all K3.out 0 rfl 62 _ rfl rfl Try.underlying62 rfl (size50)) ?_
        (try simp only [Act.put, List.getElem_toArray, List.getElem_cons_succ, List.getElem_cons_zero, List.setIfInBounds_toArray, List.set_cons_zero, List.set_cons_succ])
        refine kb_call K3.out 27 #[.agg (poA ⟨x.p0, x.p1, x.p2, x.p3, x.p4, x.p5, x.p6, x.p7, x.p8, x.p9, x.p10, x.p11, x.p12, x.p13, x.p14, x.p15, x.p16, x.p17, x.p18, x.p19, x.p20⟩)] (.bool false) (by rfl) (by go_simp) (CO.out false hon w3) ?_
        intro w4 hk
        have K4 := Lib.hid (show Kb w [(b1, poA ⟨x.p0, x.p1, x.p2, x.p3, x.p4, x.p5, x.p6, x.p7, x.p8, x.p9, x.p10, x.p11, x.p12, x.p13, x.p14, x.p15, x.p16, x.p17, x.p18, x.p19, x.p20⟩, 62), (b2, cfA c, 58), (b3, nil21, 62)] w4 from hk)
        clear hk
        (try simp only [Act.put, List.getElem_toArray, List.getElem_cons_succ, List.getElem_cons_zero, List.setIfInBounds_toArray, List.set_cons_zero, List.set_cons_succ])
        refine wpList_val (.bool false) (by rfl) (by go_simp) ?_
        (try simp only [Act.put, List.getElem_toArray, List.getElem_cons_succ, List.getElem_cons_zero, List.setIfInBounds_toArray, List.set_cons_zero, List.set_cons_succ])
        refine wpList_nil ?_
        go_upto_region 2 with fail
        refine wp_region_lit ?_
        refine wpList_val (.bool false) (by rfl) (by go_simp) ?_
        (try simp only [Act.put, List.getElem_toArray, List.getElem_cons_succ, List.getElem_cons_zero, List.setIfInBounds_toArray, List.set_cons_zero, List.set_cons_succ])
        refine wpList_val (.bool true) (by rfl) (by go_simp) ?_
        (try simp only [Act.put, List.getElem_toArray, List.getElem_cons_succ, List.getElem_cons_zero, List.setIfInBounds_toArray, List.set_cons_zero, List.set_cons_succ])
        refine wpList_val (.pointer (some ⟨b1, 7, none⟩)) (by rfl) (by go_simp) ?_
        (try simp only [Act.put, List.getElem_toArray, List.getElem_cons_succ, List.getElem_cons_zero, List.setIfInBounds_toArray, List.set_cons_zero, List.set_cons_succ])
        refine kb_set K4.out 0 rfl 4 _ _ 7 (.bool false) rfl (by rfl) rfl rfl (kb_run_set K4.out (i := 0) rfl 4 7 (.bool x.p7) (.bool false) (by rfl) (fun W h1 h2 => by go_simp)) (poA ⟨x.p0, x.p1, x.p2, x.p3, x.p4, x.p5, x.p6, false, x.p8, x.p9, x.p10, x.p11, x.p12, x.p13, x.p14, x.p15, x.p16, x.p17, x.p18, x.p19, x.p20⟩) (by kernel_rfl) ?_
        intro w5 hk
        have K5 := Lib.hid (show Kb w [(b1, poA ⟨x.p0, x.p1, x.p2, x.p3, x.p4, x.p5, x.p6, false, x.p8, x.p9, x.p10, x.p11, x.p12, x.p13, x.p14, x.p15, x.p16, x.p17, x.p18, x.p19, x.p20⟩, 62), (b2, cfA c, 58), (b3, nil21, 62)] w5 from hk)
        clear hk
        (try simp only [Act.put, List.getElem_toArray, List.getElem_cons_succ, List.getElem_cons_zero, List.setIfInBounds_toArray, List.set_cons_zero, List.set_cons_succ])
        refine wpList_val (.pointer (some ⟨b1, 6, none⟩)) (by rfl) (by go_simp) ?_
        (try simp only [Act.put, List.getElem_toArray, List.getElem_cons_succ, List.getElem_cons_zero, List.setIfInBounds_toArray, List.set_cons_zero, List.set_cons_succ])
        refine kb_set K5.out 0 rfl 4 _ _ 6 (.bool true) rfl (by rfl) rfl rfl (kb_run_set K5.out (i := 0) rfl 4 6 (.bool x.p6) (.bool true) (by rfl) (fun W h1 h2 => by go_simp)) (poA ⟨x.p0, x.p1, x.p2, x.p3, x.p4, x.p5, true, false, x.p8, x.p9, x.p10, x.p11, x.p12, x.p13, x.p14, x.p15, x.p16, x.p17, x.p18, x.p19, x.p20⟩) (by kernel_rfl) ?_
        intro w6 hk
        have K6 := Lib.hid (show Kb w [(b1, poA ⟨x.p0, x.p1, x.p2, x.p3, x.p4, x.p5, true, false, x.p8, x.p9, x.p10, x.p11, x.p12, x.p13, x.p14, x.p15, x.p16, x.p17, x.p18, x.p19, x.p20⟩, 62), (b2, cfA c, 58), (b3, nil21, 62)] w6 from hk)
        clear hk
        (try simp only [Act.put, List.getElem_toArray, List.getElem_cons_succ, List.getElem_cons_zero, List.setIfInBounds_toArray, List.set_cons_zero, List.set_cons_succ])
        refine wpList_nil ?_
        go_upto_region 3 with fail
        refine wp_region_lit ?_
        refine wpList_val (.agg (poA ⟨x.p0, x.p1, x.p2, x.p3, x.p4, x.p5, true, false, x.p8, x.p9, x.p10, x.p11, x.p12, x.p13, x.p14, x.p15, x.p16, x.p17, x.p18, x.p19, x.p20⟩)) (by rfl) (kb_all K6.out 0 rfl 62 _ rfl rfl Try.underlying62 rfl (size50)) ?_
        (try simp only [Act.put, List.getElem_toArray, List.getElem_cons_succ, List.getElem_cons_zero, List.setIfInBounds_toArray, List.set_cons_zero, List.set_cons_succ])
        refine kb_call K6.out 27 #[.agg (poA ⟨x.p0, x.p1, x.p2, x.p3, x.p4, x.p5, true, false, x.p8, x.p9, x.p10, x.p11, x.p12, x.p13, x.p14, x.p15, x.p16, x.p17, x.p18, x.p19, x.p20⟩)] (.bool false) (by rfl) (by go_simp) (on_is ⟨x.p0, x.p1, x.p2, x.p3, x.p4, x.p5, true, false, x.p8, x.p9, x.p10, x.p11, x.p12, x.p13, x.p14, x.p15, x.p16, x.p17, x.p18, x.p19, x.p20⟩ false rfl w6) ?_
        intro w7 hk
        have K7 := Lib.hid (show Kb w [(b1, poA ⟨x.p0, x.p1, x.p2, x.p3, x.p4, x.p5, true, false, x.p8, x.p9, x.p10, x.p11, x.p12, x.p13, x.p14, x.p15, x.p16, x.p17, x.p18, x.p19, x.p20⟩, 62), (b2, cfA c, 58), (b3, nil21, 62)] w7 from hk)
        clear hk
        (try simp only [Act.put, List.getElem_toArray, List.getElem_cons_succ, List.getElem_cons_zero, List.setIfInBounds_toArray, List.set_cons_zero, List.set_cons_succ])
        refine wpList_val (.bool true) (by rfl) (by go_simp) ?_
        (try simp only [Act.put, List.getElem_toArray, List.getElem_cons_succ, List.getElem_cons_zero, List.setIfInBounds_toArray, List.set_cons_zero, List.set_cons_succ])
        refine wpList_val (.bool true) (by rfl) (by go_simp) ?_
        (try simp only [Act.put, List.getElem_toArray, List.getElem_cons_succ, List.getElem_cons_zero, List.setIfInBounds_toArray, List.set_cons_zero, List.set_cons_succ])
        refine wpList_nil ?_
        go_upto_region 4 with fail
        refine wp_region_lit ?_
        refine wpList_val (.agg (poA ⟨x.p0, x.p1, x.p2, x.p3, x.p4, x.p5, true, false, x.p8, x.p9, x.p10, x.p11, x.p12, x.p13, x.p14, x.p15, x.p16, x.p17, x.p18, x.p19, x.p20⟩)) (by rfl) (kb_all K7.out 0 rfl 62 _ rfl rfl Try.underlying62 rfl (size50)) ?_
        (try simp only [Act.put, List.getElem_toArray, List.getElem_cons_succ, List.getElem_cons_zero, List.setIfInBounds_toArray, List.set_cons_zero, List.set_cons_succ])
        refine kb_call K7.out 29 #[.agg (poA ⟨x.p0, x.p1, x.p2, x.p3, x.p4, x.p5, true, false, x.p8, x.p9, x.p10, x.p11, x.p12, x.p13, x.p14, x.p15, x.p16, x.p17, x.p18, x.p19, x.p20⟩)] (.agg (poA ⟨x.p0, x.p1, x.p2, x.p3, x.p4, x.p5, true, false, false, false, 0, 0, 0, 0, 0, 0, 0, 0, 0, 0, 0⟩)) (by rfl) (by go_simp) (cold_of ⟨x.p0, x.p1, x.p2, x.p3, x.p4, x.p5, true, false, x.p8, x.p9, x.p10, x.p11, x.p12, x.p13, x.p14, x.p15, x.p16, x.p17, x.p18, x.p19, x.p20⟩ ⟨x.p0, x.p1, x.p2, x.p3, x.p4, x.p5, true, false, false, false, 0, 0, 0, 0, 0, 0, 0, 0, 0, 0, 0⟩ rfl w7) ?_
        intro w8 hk
        have K8 := Lib.hid (show Kb w [(b1, poA ⟨x.p0, x.p1, x.p2, x.p3, x.p4, x.p5, true, false, x.p8, x.p9, x.p10, x.p11, x.p12, x.p13, x.p14, x.p15, x.p16, x.p17, x.p18, x.p19, x.p20⟩, 62), (b2, cfA c, 58), (b3, nil21, 62)] w8 from hk)
        clear hk
        (try simp only [Act.put, List.getElem_toArray, List.getElem_cons_succ, List.getElem_cons_zero, List.setIfInBounds_toArray, List.set_cons_zero, List.set_cons_succ])
        refine kb_row K8.out 2 rfl 62 _ _ (poA ⟨x.p0, x.p1, x.p2, x.p3, x.p4, x.p5, true, false, false, false, 0, 0, 0, 0, 0, 0, 0, 0, 0, 0, 0⟩) rfl rfl rfl rfl (size50) (by rfl) (po_all _) ?_
        intro w9 hk
        have K9 := Lib.hid (show Kb w [(b1, poA ⟨x.p0, x.p1, x.p2, x.p3, x.p4, x.p5, true, false, x.p8, x.p9, x.p10, x.p11, x.p12, x.p13, x.p14, x.p15, x.p16, x.p17, x.p18, x.p19, x.p20⟩, 62), (b2, cfA c, 58), (b3, poA ⟨x.p0, x.p1, x.p2, x.p3, x.p4, x.p5, true, false, false, false, 0, 0, 0, 0, 0, 0, 0, 0, 0, 0, 0⟩, 62)] w9 from hk)
        clear hk
        (try simp only [Act.put, List.getElem_toArray, List.getElem_cons_succ, List.getElem_cons_zero, List.setIfInBounds_toArray, List.set_cons_zero, List.set_cons_succ])
        refine wpList_nil ?_
        go_wp2_with fail
        refine bodyPost_ret (v := .agg (poA ⟨x.p0, x.p1, x.p2, x.p3, x.p4, x.p5, true, false, false, false, 0, 0, 0, 0, 0, 0, 0, 0, 0, 0, 0⟩)) (results_cell_row Try.results19 _ _ b3 62 (poA ⟨x.p0, x.p1, x.p2, x.p3, x.p4, x.p5, true, false, false, false, 0, 0, 0, 0, 0, 0, 0, 0, 0, 0, 0⟩) (0, 0) _ rfl (K9.out.at (i := 2) rfl) Try.underlying62 rfl (po_info _)) rfl ?_
        exact ⟨rfl, K9.out.below⟩
    case true =>
      cases ad
      case false =>
        have hP : switchP x true false c.p3 = ⟨x.p0, x.p1, x.p2, x.p3, x.p4, x.p5, false, true, false, false, 0, 0, 0, 0, 0, 0, 0, 0, 0, 0, 0⟩ := by unfold switchP; simp [hon]
        rw [hP]
        clear hP
        rw [show poV x = .agg (poA ⟨x.p0, x.p1, x.p2, x.p3, x.p4, x.p5, x.p6, x.p7, x.p8, x.p9, x.p10, x.p11, x.p12, x.p13, x.p14, x.p15, x.p16, x.p17, x.p18, x.p19, x.p20⟩) from rfl]
        have K := Lib.hid (Kb.nil w)
        go_enter Try.func19, Try.ntmps19
        go_upto_region 0 with fail
        refine wp_region_lit ?_
        refine kb_box K.out 62 (.tmp 0) (poA ⟨x.p0, x.p1, x.p2, x.p3, x.p4, x.p5, x.p6, x.p7, x.p8, x.p9, x.p10, x.p11, x.p12, x.p13, x.p14, x.p15, x.p16, x.p17, x.p18, x.p19, x.p20⟩) rfl rfl (by rfl) ?_
        intro b1 w1 hb1 hk
        have K1 := Lib.hid (show Kb w [(b1, poA ⟨x.p0, x.p1, x.p2, x.p3, x.p4, x.p5, x.p6, x.p7, x.p8, x.p9, x.p10, x.p11, x.p12, x.p13, x.p14, x.p15, x.p16, x.p17, x.p18, x.p19, x.p20⟩, 62)] w1 from hk)
        clear hk hb1
        (try simp only [Act.put, List.getElem_toArray, List.getElem_cons_succ, List.getElem_cons_zero, List.setIfInBounds_toArray, List.set_cons_zero, List.set_cons_succ])
        refine kb_box K1.out 58 (.tmp 3) (cfA c) rfl rfl (by rfl) ?_
        intro b2 w2 hb2 hk
        have K2 := Lib.hid (show Kb w [(b1, poA ⟨x.p0, x.p1, x.p2, x.p3, x.p4, x.p5, x.p6, x.p7, x.p8, x.p9, x.p10, x.p11, x.p12, x.p13, x.p14, x.p15, x.p16, x.p17, x.p18, x.p19, x.p20⟩, 62), (b2, cfA c, 58)] w2 from hk)
        clear hk hb2
        (try simp only [Act.put, List.getElem_toArray, List.getElem_cons_succ, List.getElem_cons_zero, List.setIfInBounds_toArray, List.set_cons_zero, List.set_cons_succ])
        refine kb_alloc K2.out 62 (nil21) rfl z50 (by rfl) ?_
        intro b3 w3 hb3 hk
        have K3 := Lib.hid (show Kb w [(b1, poA ⟨x.p0, x.p1, x.p2, x.p3, x.p4, x.p5, x.p6, x.p7, x.p8, x.p9, x.p10, x.p11, x.p12, x.p13, x.p14, x.p15, x.p16, x.p17, x.p18, x.p19, x.p20⟩, 62), (b2, cfA c, 58), (b3, nil21, 62)] w3 from hk)
        clear hk hb3
        (try simp only [Act.put, List.getElem_toArray, List.getElem_cons_succ, List.getElem_cons_zero, List.setIfInBounds_toArray, List.set_cons_zero, List.set_cons_succ])
        refine wpList_nil ?_
        go_upto_region 1 with fail
        refine wp_region_lit ?_
        refine wpList_val (.agg (poA ⟨x.p0, x.p1, x.p2, x.p3, x.p4, x.p5, x.p6, x.p7, x.p8, x.p9, x.p10, x.p11, x.p12, x.p13, x.p14, x.p15, x.p16, x.p17, x.p18, x.p19, x.p20⟩)) (by rfl) (kb_all K3.out 0 rfl 62 _ rfl rfl Try.underlying62 rfl (size50)) ?_
        (try simp only [Act.put, List.getElem_toArray, List.getElem_cons_succ, List.getElem_cons_zero, List.setIfInBounds_toArray, List.set_cons_zero, List.set_cons_succ])
        refine kb_call K3.out 27 #[.agg (poA ⟨x.p0, x.p1, x.p2, x.p3, x.p4, x.p5, x.p6, x.p7, x.p8, x.p9, x.p10, x.p11, x.p12, x.p13, x.p14, x.p15, x.p16, x.p17, x.p18, x.p19, x.p20⟩)] (.bool false) (by rfl) (by go_simp) (CO.out false hon w3) ?_
        intro w4 hk
        have K4 := Lib.hid (show Kb w [(b1, poA ⟨x.p0, x.p1, x.p2, x.p3, x.p4, x.p5, x.p6, x.p7, x.p8, x.p9, x.p10, x.p11, x.p12, x.p13, x.p14, x.p15, x.p16, x.p17, x.p18, x.p19, x.p20⟩, 62), (b2, cfA c, 58), (b3, nil21, 62)] w4 from hk)
        clear hk
        (try simp only [Act.put, List.getElem_toArray, List.getElem_cons_succ, List.getElem_cons_zero, List.setIfInBounds_toArray, List.set_cons_zero, List.set_cons_succ])
        refine wpList_val (.bool false) (by rfl) (by go_simp) ?_
        (try simp only [Act.put, List.getElem_toArray, List.getElem_cons_succ, List.getElem_cons_zero, List.setIfInBounds_toArray, List.set_cons_zero, List.set_cons_succ])
        refine wpList_nil ?_
        go_upto_region 2 with fail
        refine wp_region_lit ?_
        refine wpList_val (.bool true) (by rfl) (by go_simp) ?_
        (try simp only [Act.put, List.getElem_toArray, List.getElem_cons_succ, List.getElem_cons_zero, List.setIfInBounds_toArray, List.set_cons_zero, List.set_cons_succ])
        refine wpList_val (.bool false) (by rfl) (by go_simp) ?_
        (try simp only [Act.put, List.getElem_toArray, List.getElem_cons_succ, List.getElem_cons_zero, List.setIfInBounds_toArray, List.set_cons_zero, List.set_cons_succ])
        refine wpList_val (.pointer (some ⟨b1, 7, none⟩)) (by rfl) (by go_simp) ?_
        (try simp only [Act.put, List.getElem_toArray, List.getElem_cons_succ, List.getElem_cons_zero, List.setIfInBounds_toArray, List.set_cons_zero, List.set_cons_succ])
        refine kb_set K4.out 0 rfl 4 _ _ 7 (.bool true) rfl (by rfl) rfl rfl (kb_run_set K4.out (i := 0) rfl 4 7 (.bool x.p7) (.bool true) (by rfl) (fun W h1 h2 => by go_simp)) (poA ⟨x.p0, x.p1, x.p2, x.p3, x.p4, x.p5, x.p6, true, x.p8, x.p9, x.p10, x.p11, x.p12, x.p13, x.p14, x.p15, x.p16, x.p17, x.p18, x.p19, x.p20⟩) (by kernel_rfl) ?_
        intro w5 hk
        have K5 := Lib.hid (show Kb w [(b1, poA ⟨x.p0, x.p1, x.p2, x.p3, x.p4, x.p5, x.p6, true, x.p8, x.p9, x.p10, x.p11, x.p12, x.p13, x.p14, x.p15, x.p16, x.p17, x.p18, x.p19, x.p20⟩, 62), (b2, cfA c, 58), (b3, nil21, 62)] w5 from hk)
        clear hk
        (try simp only [Act.put, List.getElem_toArray, List.getElem_cons_succ, List.getElem_cons_zero, List.setIfInBounds_toArray, List.set_cons_zero, List.set_cons_succ])
        refine wpList_val (.pointer (some ⟨b1, 6, none⟩)) (by rfl) (by go_simp) ?_
        (try simp only [Act.put, List.getElem_toArray, List.getElem_cons_succ, List.getElem_cons_zero, List.setIfInBounds_toArray, List.set_cons_zero, List.set_cons_succ])
        refine kb_set K5.out 0 rfl 4 _ _ 6 (.bool false) rfl (by rfl) rfl rfl (kb_run_set K5.out (i := 0) rfl 4 6 (.bool x.p6) (.bool false) (by rfl) (fun W h1 h2 => by go_simp)) (poA ⟨x.p0, x.p1, x.p2, x.p3, x.p4, x.p5, false, true, x.p8, x.p9, x.p10, x.p11, x.p12, x.p13, x.p14, x.p15, x.p16, x.p17, x.p18, x.p19, x.p20⟩) (by kernel_rfl) ?_
        intro w6 hk
        have K6 := Lib.hid (show Kb w [(b1, poA ⟨x.p0, x.p1, x.p2, x.p3, x.p4, x.p5, false, true, x.p8, x.p9, x.p10, x.p11, x.p12, x.p13, x.p14, x.p15, x.p16, x.p17, x.p18, x.p19, x.p20⟩, 62), (b2, cfA c, 58), (b3, nil21, 62)] w6 from hk)
        clear hk
        (try simp only [Act.put, List.getElem_toArray, List.getElem_cons_succ, List.getElem_cons_zero, List.setIfInBounds_toArray, List.set_cons_zero, List.set_cons_succ])
        refine wpList_nil ?_
        go_upto_region 3 with fail
        refine wp_region_lit ?_
        refine wpList_val (.agg (poA ⟨x.p0, x.p1, x.p2, x.p3, x.p4, x.p5, false, true, x.p8, x.p9, x.p10, x.p11, x.p12, x.p13, x.p14, x.p15, x.p16, x.p17, x.p18, x.p19, x.p20⟩)) (by rfl) (kb_all K6.out 0 rfl 62 _ rfl rfl Try.underlying62 rfl (size50)) ?_
        (try simp only [Act.put, List.getElem_toArray, List.getElem_cons_succ, List.getElem_cons_zero, List.setIfInBounds_toArray, List.set_cons_zero, List.set_cons_succ])
        refine kb_call K6.out 27 #[.agg (poA ⟨x.p0, x.p1, x.p2, x.p3, x.p4, x.p5, false, true, x.p8, x.p9, x.p10, x.p11, x.p12, x.p13, x.p14, x.p15, x.p16, x.p17, x.p18, x.p19, x.p20⟩)] (.bool false) (by rfl) (by go_simp) (on_is ⟨x.p0, x.p1, x.p2, x.p3, x.p4, x.p5, false, true, x.p8, x.p9, x.p10, x.p11, x.p12, x.p13, x.p14, x.p15, x.p16, x.p17, x.p18, x.p19, x.p20⟩ false rfl w6) ?_
        intro w7 hk
        have K7 := Lib.hid (show Kb w [(b1, poA ⟨x.p0, x.p1, x.p2, x.p3, x.p4, x.p5, false, true, x.p8, x.p9, x.p10, x.p11, x.p12, x.p13, x.p14, x.p15, x.p16, x.p17, x.p18, x.p19, x.p20⟩, 62), (b2, cfA c, 58), (b3, nil21, 62)] w7 from hk)
        clear hk
        (try simp only [Act.put, List.getElem_toArray, List.getElem_cons_succ, List.getElem_cons_zero, List.setIfInBounds_toArray, List.set_cons_zero, List.set_cons_succ])
        refine wpList_val (.bool true) (by rfl) (by go_simp) ?_
        (try simp only [Act.put, List.getElem_toArray, List.getElem_cons_succ, List.getElem_cons_zero, List.setIfInBounds_toArray, List.set_cons_zero, List.set_cons_succ])
        refine wpList_val (.bool true) (by rfl) (by go_simp) ?_
        (try simp only [Act.put, List.getElem_toArray, List.getElem_cons_succ, List.getElem_cons_zero, List.setIfInBounds_toArray, List.set_cons_zero, List.set_cons_succ])
        refine wpList_nil ?_
        go_upto_region 4 with fail
        refine wp_region_lit ?_
        refine wpList_val (.agg (poA ⟨x.p0, x.p1, x.p2, x.p3, x.p4, x.p5, false, true, x.p8, x.p9, x.p10, x.p11, x.p12, x.p13, x.p14, x.p15, x.p16, x.p17, x.p18, x.p19, x.p20⟩)) (by rfl) (kb_all K7.out 0 rfl 62 _ rfl rfl Try.underlying62 rfl (size50)) ?_
        (try simp only [Act.put, List.getElem_toArray, List.getElem_cons_succ, List.getElem_cons_zero, List.setIfInBounds_toArray, List.set_cons_zero, List.set_cons_succ])
        refine kb_call K7.out 29 #[.agg (poA ⟨x.p0, x.p1, x.p2, x.p3, x.p4, x.p5, false, true, x.p8, x.p9, x.p10, x.p11, x.p12, x.p13, x.p14, x.p15, x.p16, x.p17, x.p18, x.p19, x.p20⟩)] (.agg (poA ⟨x.p0, x.p1, x.p2, x.p3, x.p4, x.p5, false, true, false, false, 0, 0, 0, 0, 0, 0, 0, 0, 0, 0, 0⟩)) (by rfl) (by go_simp) (cold_of ⟨x.p0, x.p1, x.p2, x.p3, x.p4, x.p5, false, true, x.p8, x.p9, x.p10, x.p11, x.p12, x.p13, x.p14, x.p15, x.p16, x.p17, x.p18, x.p19, x.p20⟩ ⟨x.p0, x.p1, x.p2, x.p3, x.p4, x.p5, false, true, false, false, 0, 0, 0, 0, 0, 0, 0, 0, 0, 0, 0⟩ rfl w7) ?_
        intro w8 hk
        have K8 := Lib.hid (show Kb w [(b1, poA ⟨x.p0, x.p1, x.p2, x.p3, x.p4, x.p5, false, true, x.p8, x.p9, x.p10, x.p11, x.p12, x.p13, x.p14, x.p15, x.p16, x.p17, x.p18, x.p19, x.p20⟩, 62), (b2, cfA c, 58), (b3, nil21, 62)] w8 from hk)
        clear hk
        (try simp only [Act.put, List.getElem_toArray, List.getElem_cons_succ, List.getElem_cons_zero, List.setIfInBounds_toArray, List.set_cons_zero, List.set_cons_succ])
        refine kb_row K8.out 2 rfl 62 _ _ (poA ⟨x.p0, x.p1, x.p2, x.p3, x.p4, x.p5, false, true, false, false, 0, 0, 0, 0, 0, 0, 0, 0, 0, 0, 0⟩) rfl rfl rfl rfl (size50) (by rfl) (po_all _) ?_
        intro w9 hk
        have K9 := Lib.hid (show Kb w [(b1, poA ⟨x.p0, x.p1, x.p2, x.p3, x.p4, x.p5, false, true, x.p8, x.p9, x.p10, x.p11, x.p12, x.p13, x.p14, x.p15, x.p16, x.p17, x.p18, x.p19, x.p20⟩, 62), (b2, cfA c, 58), (b3, poA ⟨x.p0, x.p1, x.p2, x.p3, x.p4, x.p5, false, true, false, false, 0, 0, 0, 0, 0, 0, 0, 0, 0, 0, 0⟩, 62)] w9 from hk)
        clear hk
        (try simp only [Act.put, List.getElem_toArray, List.getElem_cons_succ, List.getElem_cons_zero, List.setIfInBounds_toArray, List.set_cons_zero, List.set_cons_succ])
        refine wpList_nil ?_
        go_wp2_with fail
        refine bodyPost_ret (v := .agg (poA ⟨x.p0, x.p1, x.p2, x.p3, x.p4, x.p5, false, true, false, false, 0, 0, 0, 0, 0, 0, 0, 0, 0, 0, 0⟩)) (results_cell_row Try.results19 _ _ b3 62 (poA ⟨x.p0, x.p1, x.p2, x.p3, x.p4, x.p5, false, true, false, false, 0, 0, 0, 0, 0, 0, 0, 0, 0, 0, 0⟩) (0, 0) _ rfl (K9.out.at (i := 2) rfl) Try.underlying62 rfl (po_info _)) rfl ?_
        exact ⟨rfl, K9.out.below⟩
      case true =>
        have hP : switchP x true true c.p3 = ⟨x.p0, x.p1, x.p2, x.p3, x.p4, x.p5, true, true, true, false, 0, 0, 0, 0, 0, 0, 0, 0, 0, c.p3, 0⟩ := by unfold switchP; simp [hon]
        rw [hP]
        clear hP
        rw [show poV x = .agg (poA ⟨x.p0, x.p1, x.p2, x.p3, x.p4, x.p5, x.p6, x.p7, x.p8, x.p9, x.p10, x.p11, x.p12, x.p13, x.p14, x.p15, x.p16, x.p17, x.p18, x.p19, x.p20⟩) from rfl]
        have K := Lib.hid (Kb.nil w)
        go_enter Try.func19, Try.ntmps19
        go_upto_region 0 with fail
        refine wp_region_lit ?_
        refine kb_box K.out 62 (.tmp 0) (poA ⟨x.p0, x.p1, x.p2, x.p3, x.p4, x.p5, x.p6, x.p7, x.p8, x.p9, x.p10, x.p11, x.p12, x.p13, x.p14, x.p15, x.p16, x.p17, x.p18, x.p19, x.p20⟩) rfl rfl (by rfl) ?_
        intro b1 w1 hb1 hk
        have K1 := Lib.hid (show Kb w [(b1, poA ⟨x.p0, x.p1, x.p2, x.p3, x.p4, x.p5, x.p6, x.p7, x.p8, x.p9, x.p10, x.p11, x.p12, x.p13, x.p14, x.p15, x.p16, x.p17, x.p18, x.p19, x.p20⟩, 62)] w1 from hk)
        clear hk hb1
        (try simp only [Act.put, List.getElem_toArray, List.getElem_cons_succ, List.getElem_cons_zero, List.setIfInBounds_toArray, List.set_cons_zero, List.set_cons_succ])
        refine kb_box K1.out 58 (.tmp 3) (cfA c) rfl rfl (by rfl) ?_
        intro b2 w2 hb2 hk
        have K2 := Lib.hid (show Kb w [(b1, poA ⟨x.p0, x.p1, x.p2, x.p3, x.p4, x.p5, x.p6, x.p7, x.p8, x.p9, x.p10, x.p11, x.p12, x.p13, x.p14, x.p15, x.p16, x.p17, x.p18, x.p19, x.p20⟩, 62), (b2, cfA c, 58)] w2 from hk)
        clear hk hb2
        (try simp only [Act.put, List.getElem_toArray, List.getElem_cons_succ, List.getElem_cons_zero, List.setIfInBounds_toArray, List.set_cons_zero, List.set_cons_succ])
        refine kb_alloc K2.out 62 (nil21) rfl z50 (by rfl) ?_
        intro b3 w3 hb3 hk
        have K3 := Lib.hid (show Kb w [(b1, poA ⟨x.p0, x.p1, x.p2, x.p3, x.p4, x.p5, x.p6, x.p7, x.p8, x.p9, x.p10, x.p11, x.p12, x.p13, x.p14, x.p15, x.p16, x.p17, x.p18, x.p19, x.p20⟩, 62), (b2, cfA c, 58), (b3, nil21, 62)] w3 from hk)
        clear hk hb3
        (try simp only [Act.put, List.getElem_toArray, List.getElem_cons_succ, List.getElem_cons_zero, List.setIfInBounds_toArray, List.set_cons_zero, List.set_cons_succ])
        refine wpList_nil ?_
        go_upto_region 1 with fail
        refine wp_region_lit ?_
        refine wpList_val (.agg (poA ⟨x.p0, x.p1, x.p2, x.p3, x.p4, x.p5, x.p6, x.p7, x.p8, x.p9, x.p10, x.p11, x.p12, x.p13, x.p14, x.p15, x.p16, x.p17, x.p18, x.p19, x.p20⟩)) (by rfl) (kb_all K3.out 0 rfl 62 _ rfl rfl Try.underlying62 rfl (size50)) ?_
        (try simp only [Act.put, List.getElem_toArray, List.getElem_cons_succ, List.getElem_cons_zero, List.setIfInBounds_toArray, List.set_cons_zero, List.set_cons_succ])
        refine kb_call K3.out 27 #[.agg (poA ⟨x.p0, x.p1, x.p2, x.p3, x.p4, x.p5, x.p6, x.p7, x.p8, x.p9, x.p10, x.p11, x.p12, x.p13, x.p14, x.p15, x.p16, x.p17, x.p18, x.p19, x.p20⟩)] (.bool false) (by rfl) (by go_simp) (CO.out false hon w3) ?_
        intro w4 hk
        have K4 := Lib.hid (show Kb w [(b1, poA ⟨x.p0, x.p1, x.p2, x.p3, x.p4, x.p5, x.p6, x.p7, x.p8, x.p9, x.p10, x.p11, x.p12, x.p13, x.p14, x.p15, x.p16, x.p17, x.p18, x.p19, x.p20⟩, 62), (b2, cfA c, 58), (b3, nil21, 62)] w4 from hk)
        clear hk
        (try simp only [Act.put, List.getElem_toArray, List.getElem_cons_succ, List.getElem_cons_zero, List.setIfInBounds_toArray, List.set_cons_zero, List.set_cons_succ])
        refine wpList_val (.bool false) (by rfl) (by go_simp) ?_
        (try simp only [Act.put, List.getElem_toArray, List.getElem_cons_succ, List.getElem_cons_zero, List.setIfInBounds_toArray, List.set_cons_zero, List.set_cons_succ])
        refine wpList_nil ?_
        go_upto_region 2 with fail
        refine wp_region_lit ?_
        refine wpList_val (.bool true) (by rfl) (by go_simp) ?_
        (try simp only [Act.put, List.getElem_toArray, List.getElem_cons_succ, List.getElem_cons_zero, List.setIfInBounds_toArray, List.set_cons_zero, List.set_cons_succ])
        refine wpList_val (.bool true) (by rfl) (by go_simp) ?_
        (try simp only [Act.put, List.getElem_toArray, List.getElem_cons_succ, List.getElem_cons_zero, List.setIfInBounds_toArray, List.set_cons_zero, List.set_cons_succ])
        refine wpList_val (.pointer (some ⟨b1, 7, none⟩)) (by rfl) (by go_simp) ?_
        (try simp only [Act.put, List.getElem_toArray, List.getElem_cons_succ, List.getElem_cons_zero, List.setIfInBounds_toArray, List.set_cons_zero, List.set_cons_succ])
        refine kb_set K4.out 0 rfl 4 _ _ 7 (.bool true) rfl (by rfl) rfl rfl (kb_run_set K4.out (i := 0) rfl 4 7 (.bool x.p7) (.bool true) (by rfl) (fun W h1 h2 => by go_simp)) (poA ⟨x.p0, x.p1, x.p2, x.p3, x.p4, x.p5, x.p6, true, x.p8, x.p9, x.p10, x.p11, x.p12, x.p13, x.p14, x.p15, x.p16, x.p17, x.p18, x.p19, x.p20⟩) (by kernel_rfl) ?_
        intro w5 hk
        have K5 := Lib.hid (show Kb w [(b1, poA ⟨x.p0, x.p1, x.p2, x.p3, x.p4, x.p5, x.p6, true, x.p8, x.p9, x.p10, x.p11, x.p12, x.p13, x.p14, x.p15, x.p16, x.p17, x.p18, x.p19, x.p20⟩, 62), (b2, cfA c, 58), (b3, nil21, 62)] w5 from hk)
        clear hk
        (try simp only [Act.put, List.getElem_toArray, List.getElem_cons_succ, List.getElem_cons_zero, List.setIfInBounds_toArray, List.set_cons_zero, List.set_cons_succ])
        refine wpList_val (.pointer (some ⟨b1, 6, none⟩)) (by rfl) (by go_simp) ?_
        (try simp only [Act.put, List.getElem_toArray, List.getElem_cons_succ, List.getElem_cons_zero, List.setIfInBounds_toArray, List.set_cons_zero, List.set_cons_succ])
        refine kb_set K5.out 0 rfl 4 _ _ 6 (.bool true) rfl (by rfl) rfl rfl (kb_run_set K5.out (i := 0) rfl 4 6 (.bool x.p6) (.bool true) (by rfl) (fun W h1 h2 => by go_simp)) (poA ⟨x.p0, x.p1, x.p2, x.p3, x.p4, x.p5, true, true, x.p8, x.p9, x.p10, x.p11, x.p12, x.p13, x.p14, x.p15, x.p16, x.p17, x.p18, x.p19, x.p20⟩) (by kernel_rfl) ?_
        intro w6 hk
        have K6 := Lib.hid (show Kb w [(b1, poA ⟨x.p0, x.p1, x.p2, x.p3, x.p4, x.p5, true, true, x.p8, x.p9, x.p10, x.p11, x.p12, x.p13, x.p14, x.p15, x.p16, x.p17, x.p18, x.p19, x.p20⟩, 62), (b2, cfA c, 58), (b3, nil21, 62)] w6 from hk)
        clear hk
        (try simp only [Act.put, List.getElem_toArray, List.getElem_cons_succ, List.getElem_cons_zero, List.setIfInBounds_toArray, List.set_cons_zero, List.set_cons_succ])
        refine wpList_nil ?_
        go_upto_region 3 with fail
        refine wp_region_lit ?_
        refine wpList_val (.agg (poA ⟨x.p0, x.p1, x.p2, x.p3, x.p4, x.p5, true, true, x.p8, x.p9, x.p10, x.p11, x.p12, x.p13, x.p14, x.p15, x.p16, x.p17, x.p18, x.p19, x.p20⟩)) (by rfl) (kb_all K6.out 0 rfl 62 _ rfl rfl Try.underlying62 rfl (size50)) ?_
        (try simp only [Act.put, List.getElem_toArray, List.getElem_cons_succ, List.getElem_cons_zero, List.setIfInBounds_toArray, List.set_cons_zero, List.set_cons_succ])
        refine kb_call K6.out 27 #[.agg (poA ⟨x.p0, x.p1, x.p2, x.p3, x.p4, x.p5, true, true, x.p8, x.p9, x.p10, x.p11, x.p12, x.p13, x.p14, x.p15, x.p16, x.p17, x.p18, x.p19, x.p20⟩)] (.bool true) (by rfl) (by go_simp) (on_is ⟨x.p0, x.p1, x.p2, x.p3, x.p4, x.p5, true, true, x.p8, x.p9, x.p10, x.p11, x.p12, x.p13, x.p14, x.p15, x.p16, x.p17, x.p18, x.p19, x.p20⟩ true rfl w6) ?_
        intro w7 hk
        have K7 := Lib.hid (show Kb w [(b1, poA ⟨x.p0, x.p1, x.p2, x.p3, x.p4, x.p5, true, true, x.p8, x.p9, x.p10, x.p11, x.p12, x.p13, x.p14, x.p15, x.p16, x.p17, x.p18, x.p19, x.p20⟩, 62), (b2, cfA c, 58), (b3, nil21, 62)] w7 from hk)
        clear hk
        (try simp only [Act.put, List.getElem_toArray, List.getElem_cons_succ, List.getElem_cons_zero, List.setIfInBounds_toArray, List.set_cons_zero, List.set_cons_succ])
        refine wpList_val (.bool false) (by rfl) (by go_simp) ?_
        (try simp only [Act.put, List.getElem_toArray, List.getElem_cons_succ, List.getElem_cons_zero, List.setIfInBounds_toArray, List.set_cons_zero, List.set_cons_succ])
        refine wpList_val (.bool false) (by rfl) (by go_simp) ?_
        (try simp only [Act.put, List.getElem_toArray, List.getElem_cons_succ, List.getElem_cons_zero, List.setIfInBounds_toArray, List.set_cons_zero, List.set_cons_succ])
        refine wpList_nil ?_
        go_upto_region 5 with fail
        refine wp_region_lit ?_
        refine wpList_val (.bool false) (by rfl) (by go_simp) ?_
        (try simp only [Act.put, List.getElem_toArray, List.getElem_cons_succ, List.getElem_cons_zero, List.setIfInBounds_toArray, List.set_cons_zero, List.set_cons_succ])
        refine wpList_val (.bool false) (by rfl) (by go_simp) ?_
        (try simp only [Act.put, List.getElem_toArray, List.getElem_cons_succ, List.getElem_cons_zero, List.setIfInBounds_toArray, List.set_cons_zero, List.set_cons_succ])
        refine wpList_nil ?_
        go_upto_region 7 with fail
        refine wp_region_lit ?_
        refine wpList_val (.agg (poA ⟨x.p0, x.p1, x.p2, x.p3, x.p4, x.p5, true, true, x.p8, x.p9, x.p10, x.p11, x.p12, x.p13, x.p14, x.p15, x.p16, x.p17, x.p18, x.p19, x.p20⟩)) (by rfl) (kb_all K7.out 0 rfl 62 _ rfl rfl Try.underlying62 rfl (size50)) ?_
        (try simp only [Act.put, List.getElem_toArray, List.getElem_cons_succ, List.getElem_cons_zero, List.setIfInBounds_toArray, List.set_cons_zero, List.set_cons_succ])
        refine kb_call K7.out 29 #[.agg (poA ⟨x.p0, x.p1, x.p2, x.p3, x.p4, x.p5, true, true, x.p8, x.p9, x.p10, x.p11, x.p12, x.p13, x.p14, x.p15, x.p16, x.p17, x.p18, x.p19, x.p20⟩)] (.agg (poA ⟨x.p0, x.p1, x.p2, x.p3, x.p4, x.p5, true, true, false, false, 0, 0, 0, 0, 0, 0, 0, 0, 0, 0, 0⟩)) (by rfl) (by go_simp) (cold_of ⟨x.p0, x.p1, x.p2, x.p3, x.p4, x.p5, true, true, x.p8, x.p9, x.p10, x.p11, x.p12, x.p13, x.p14, x.p15, x.p16, x.p17, x.p18, x.p19, x.p20⟩ ⟨x.p0, x.p1, x.p2, x.p3, x.p4, x.p5, true, true, false, false, 0, 0, 0, 0, 0, 0, 0, 0, 0, 0, 0⟩ rfl w7) ?_
        intro w8 hk
        have K8 := Lib.hid (show Kb w [(b1, poA ⟨x.p0, x.p1, x.p2, x.p3, x.p4, x.p5, true, true, x.p8, x.p9, x.p10, x.p11, x.p12, x.p13, x.p14, x.p15, x.p16, x.p17, x.p18, x.p19, x.p20⟩, 62), (b2, cfA c, 58), (b3, nil21, 62)] w8 from hk)
        clear hk
        (try simp only [Act.put, List.getElem_toArray, List.getElem_cons_succ, List.getElem_cons_zero, List.setIfInBounds_toArray, List.set_cons_zero, List.set_cons_succ])
        refine kb_row K8.out 0 rfl 62 _ _ (poA ⟨x.p0, x.p1, x.p2, x.p3, x.p4, x.p5, true, true, false, false, 0, 0, 0, 0, 0, 0, 0, 0, 0, 0, 0⟩) rfl rfl rfl rfl (size50) (by rfl) (po_all _) ?_
        intro w9 hk
        have K9 := Lib.hid (show Kb w [(b1, poA ⟨x.p0, x.p1, x.p2, x.p3, x.p4, x.p5, true, true, false, false, 0, 0, 0, 0, 0, 0, 0, 0, 0, 0, 0⟩, 62), (b2, cfA c, 58), (b3, nil21, 62)] w9 from hk)
        clear hk
        (try simp only [Act.put, List.getElem_toArray, List.getElem_cons_succ, List.getElem_cons_zero, List.setIfInBounds_toArray, List.set_cons_zero, List.set_cons_succ])
        refine wpList_nil ?_
        go_upto_region 8 with fail
        refine wp_region_inv (I := fun L ac w' => ∃ (v27 v28 v29 v30 : Value), ac = { tmps := #[.agg (poA ⟨x.p0, x.p1, x.p2, x.p3, x.p4, x.p5, x.p6, x.p7, x.p8, x.p9, x.p10, x.p11, x.p12, x.p13, x.p14, x.p15, x.p16, x.p17, x.p18, x.p19, x.p20⟩), .bool true, .bool true, .agg (cfA c), .pointer (some ⟨b1, 0, none⟩), undef, undef, .pointer (some ⟨b2, 0, none⟩), .pointer (some ⟨b3, 0, none⟩), .bool false, .agg (poA ⟨x.p0, x.p1, x.p2, x.p3, x.p4, x.p5, x.p6, x.p7, x.p8, x.p9, x.p10, x.p11, x.p12, x.p13, x.p14, x.p15, x.p16, x.p17, x.p18, x.p19, x.p20⟩), .bool false, .bool true, .bool true, .pointer (some ⟨b1, 7, none⟩), .pointer (some ⟨b1, 6, none⟩), .bool false, .agg (poA ⟨x.p0, x.p1, x.p2, x.p3, x.p4, x.p5, true, true, x.p8, x.p9, x.p10, x.p11, x.p12, x.p13, x.p14, x.p15, x.p16, x.p17, x.p18, x.p19, x.p20⟩), .bool true, .bool false, undef, undef, .bool false, .bool false, undef, .agg (poA ⟨x.p0, x.p1, x.p2, x.p3, x.p4, x.p5, true, true, x.p8, x.p9, x.p10, x.p11, x.p12, x.p13, x.p14, x.p15, x.p16, x.p17, x.p18, x.p19, x.p20⟩), .agg (poA ⟨x.p0, x.p1, x.p2, x.p3, x.p4, x.p5, true, true, false, false, 0, 0, 0, 0, 0, 0, 0, 0, 0, 0, 0⟩), v27, v28, v29, v30, undef], defers := [] } ∧ (L 0 = true → v27 = .pointer (some ⟨b2, 3, none⟩)) ∧ (L 1 = true → v28 = .int .i64 c.p3) ∧ (L 2 = true → v29 = .pointer (some ⟨b1, 8, none⟩)) ∧ (L 4 = true → v30 = .pointer (some ⟨b1, 19, none⟩)) ∧ Kb w [(b1, poA ⟨x.p0, x.p1, x.p2, x.p3, x.p4, x.p5, true, true, (bif L 3 then true else false), false, 0, 0, 0, 0, 0, 0, 0, 0, 0, (bif L 5 then c.p3 else 0), 0⟩, 62), (b2, cfA c, 58), (b3, nil21, 62)] w') (by kernel_rfl) (by kernel_rfl) ⟨_, _, _, _, rfl, (fun h => Bool.noConfusion h), (fun h => Bool.noConfusion h), (fun h => Bool.noConfusion h), (fun h => Bool.noConfusion h), K9.out.drew⟩ ?_ ?_
        · intro i hi Lx ac w' hI hL haft
          obtain ⟨v27, v28, v29, v30, rfl, e27, e28, e29, e30, hw⟩ := hI
          match i, hi with
          | 0, _ =>
            exact i_val rfl (.pointer (some ⟨b2, 3, none⟩)) w' (by rfl) (by go_simp) ⟨(.pointer (some ⟨b2, 3, none⟩)), v28, v29, v30, rfl, (fun _ => rfl), e28, e29, e30, hw⟩
          | 1, _ =>
            have e27x := e27 (haft 0 (by decide))
            subst e27x
            exact i_val rfl (.int .i64 c.p3) w' (by rfl) (by have q : w'.cell? ⟨b2, 3, none⟩ = some (.int .i64 c.p3) := Kb.cell (i := 1) hw rfl (by rfl); go_simp) ⟨(.pointer (some ⟨b2, 3, none⟩)), (.int .i64 c.p3), v29, v30, rfl, e27, (fun _ => rfl), e29, e30, hw⟩
          | 2, _ =>
            exact i_val rfl (.pointer (some ⟨b1, 8, none⟩)) w' (by rfl) (by go_simp) ⟨v27, v28, (.pointer (some ⟨b1, 8, none⟩)), v30, rfl, e27, e28, (fun _ => rfl), e30, hw⟩
          | 3, _ =>
            have e29x := e29 (haft 2 (by decide))
            subst e29x
            exact i_wp rfl (by rfl) (wp_store_cell 4 _ _ rfl ⟨b1, 8, none⟩ (.bool true) rfl rfl (kb_run_set hw (i := 0) rfl 4 8 (.bool (bif Lx 3 then true else false)) (.bool true) (by rfl) (fun W h1 h2 => by go_simp)) ⟨v27, v28, (.pointer (some ⟨b1, 8, none⟩)), v30, rfl, e27, e28, e29, e30, cast_blk (Kb.set (i := 0) hw rfl 8 (.bool true)) (by rfl)⟩)
          | 4, _ =>
            exact i_val rfl (.pointer (some ⟨b1, 19, none⟩)) w' (by rfl) (by go_simp) ⟨v27, v28, v29, (.pointer (some ⟨b1, 19, none⟩)), rfl, e27, e28, e29, (fun _ => rfl), hw⟩
          | 5, _ =>
            have e30x := e30 (haft 4 (by decide))
            subst e30x
            have e28x := e28 (haft 1 (by decide))
            subst e28x
            exact i_wp rfl (by rfl) (wp_store_cell 3 _ _ rfl ⟨b1, 19, none⟩ (.int .i64 c.p3) rfl rfl (kb_run_set hw (i := 0) rfl 3 19 (.int .i64 (bif Lx 5 then c.p3 else 0)) (.int .i64 c.p3) (by rfl) (fun W h1 h2 => by go_simp)) ⟨v27, (.int .i64 c.p3), v29, (.pointer (some ⟨b1, 19, none⟩)), rfl, e27, e28, e29, e30, cast_blk (Kb.set (i := 0) hw rfl 19 (.int .i64 c.p3)) (by rfl)⟩)
          | k + 6, h =>
            exfalso
            have h2 : k + 6 < 6 := h
            omega
        intro Lx ac w10 hI hall
        obtain ⟨v27, v28, v29, v30, rfl, e27, e28, e29, e30, hw⟩ := hI
        have e27y := e27 (hall 0 (by decide))
        subst e27y
        have e28y := e28 (hall 1 (by decide))
        subst e28y
        have e29y := e29 (hall 2 (by decide))
        subst e29y
        have e30y := e30 (hall 4 (by decide))
        subst e30y
        have hL3 := hall 3 (by decide)
        have hL5 := hall 5 (by decide)
        simp only [hL3, hL5, cond_true] at hw
        have K10 := Lib.hid (show Kb w [(b1, poA ⟨x.p0, x.p1, x.p2, x.p3, x.p4, x.p5, true, true, true, false, 0, 0, 0, 0, 0, 0, 0, 0, 0, c.p3, 0⟩, 62), (b2, cfA c, 58), (b3, nil21, 62)] w10 from hw)
        clear hw hall hL3 hL5
        go_upto_region 9 with fail
        refine wp_region_lit ?_
        refine wpList_val (.agg (poA ⟨x.p0, x.p1, x.p2, x.p3, x.p4, x.p5, true, true, true, false, 0, 0, 0, 0, 0, 0, 0, 0, 0, c.p3, 0⟩)) (by rfl) (kb_all K10.out 0 rfl 62 _ rfl rfl Try.underlying62 rfl (size50)) ?_
        (try simp only [Act.put, List.getElem_toArray, List.getElem_cons_succ, List.getElem_cons_zero, List.setIfInBounds_toArray, List.set_cons_zero, List.set_cons_succ])
        refine kb_row K10.out 2 rfl 62 _ _ (poA ⟨x.p0, x.p1, x.p2, x.p3, x.p4, x.p5, true, true, true, false, 0, 0, 0, 0, 0, 0, 0, 0, 0, c.p3, 0⟩) rfl rfl rfl rfl (size50) (by rfl) (po_all _) ?_
        intro w11 hk
        have K11 := Lib.hid (show Kb w [(b1, poA ⟨x.p0, x.p1, x.p2, x.p3, x.p4, x.p5, true, true, true, false, 0, 0, 0, 0, 0, 0, 0, 0, 0, c.p3, 0⟩, 62), (b2, cfA c, 58), (b3, poA ⟨x.p0, x.p1, x.p2, x.p3, x.p4, x.p5, true, true, true, false, 0, 0, 0, 0, 0, 0, 0, 0, 0, c.p3, 0⟩, 62)] w11 from hk)
        clear hk
        (try simp only [Act.put, List.getElem_toArray, List.getElem_cons_succ, List.getElem_cons_zero, List.setIfInBounds_toArray, List.set_cons_zero, List.set_cons_succ])
        refine wpList_nil ?_
        go_wp2_with fail
        refine bodyPost_ret (v := .agg (poA ⟨x.p0, x.p1, x.p2, x.p3, x.p4, x.p5, true, true, true, false, 0, 0, 0, 0, 0, 0, 0, 0, 0, c.p3, 0⟩)) (results_cell_row Try.results19 _ _ b3 62 (poA ⟨x.p0, x.p1, x.p2, x.p3, x.p4, x.p5, true, true, true, false, 0, 0, 0, 0, 0, 0, 0, 0, 0, c.p3, 0⟩) (0, 0) _ rfl (K11.out.at (i := 2) rfl) Try.underlying62 rfl (po_info _)) rfl ?_
        exact ⟨rfl, K11.out.below⟩
  case true =>
    cases up
    case false =>
      cases ad
      case false =>
        have hP : switchP x false false c.p3 = ⟨x.p0, x.p1, x.p2, x.p3, x.p4, x.p5, false, false, false, false, 0, 0, 0, 0, 0, 0, 0, 0, 0, 0, 0⟩ := by unfold switchP; simp [hon]
        rw [hP]
        clear hP
        rw [show poV x = .agg (poA ⟨x.p0, x.p1, x.p2, x.p3, x.p4, x.p5, x.p6, x.p7, x.p8, x.p9, x.p10, x.p11, x.p12, x.p13, x.p14, x.p15, x.p16, x.p17, x.p18, x.p19, x.p20⟩) from rfl]
        have K := Lib.hid (Kb.nil w)
        go_enter Try.func19, Try.ntmps19
        go_upto_region 0 with fail
        refine wp_region_lit ?_
        refine kb_box K.out 62 (.tmp 0) (poA ⟨x.p0, x.p1, x.p2, x.p3, x.p4, x.p5, x.p6, x.p7, x.p8, x.p9, x.p10, x.p11, x.p12, x.p13, x.p14, x.p15, x.p16, x.p17, x.p18, x.p19, x.p20⟩) rfl rfl (by rfl) ?_
        intro b1 w1 hb1 hk
        have K1 := Lib.hid (show Kb w [(b1, poA ⟨x.p0, x.p1, x.p2, x.p3, x.p4, x.p5, x.p6, x.p7, x.p8, x.p9, x.p10, x.p11, x.p12, x.p13, x.p14, x.p15, x.p16, x.p17, x.p18, x.p19, x.p20⟩, 62)] w1 from hk)
        clear hk hb1
        (try simp only [Act.put, List.getElem_toArray, List.getElem_cons_succ, List.getElem_cons_zero, List.setIfInBounds_toArray, List.set_cons_zero, List.set_cons_succ])
        refine kb_box K1.out 58 (.tmp 3) (cfA c) rfl rfl (by rfl) ?_
        intro b2 w2 hb2 hk
        have K2 := Lib.hid (show Kb w [(b1, poA ⟨x.p0, x.p1, x.p2, x.p3, x.p4, x.p5, x.p6, x.p7, x.p8, x.p9, x.p10, x.p11, x.p12, x.p13, x.p14, x.p15, x.p16, x.p17, x.p18, x.p19, x.p20⟩, 62), (b2, cfA c, 58)] w2 from hk)
        clear hk hb2
        (try simp only [Act.put, List.getElem_toArray, List.getElem_cons_succ, List.getElem_cons_zero, List.setIfInBounds_toArray, List.set_cons_zero, List.set_cons_succ])
        refine kb_alloc K2.out 62 (nil21) rfl z50 (by rfl) ?_
        intro b3 w3 hb3 hk
        have K3 := Lib.hid (show Kb w [(b1, poA ⟨x.p0, x.p1, x.p2, x.p3, x.p4, x.p5, x.p6, x.p7, x.p8, x.p9, x.p10, x.p11, x.p12, x.p13, x.p14, x.p15, x.p16, x.p17, x.p18, x.p19, x.p20⟩, 62), (b2, cfA c, 58), (b3, nil21, 62)] w3 from hk)
        clear hk hb3
        (try simp only [Act.put, List.getElem_toArray, List.getElem_cons_succ, List.getElem_cons_zero, List.setIfInBounds_toArray, List.set_cons_zero, List.set_cons_succ])
        refine wpList_nil ?_
        go_upto_region 1 with fail
        refine wp_region_lit ?_
        refine wpList_val (.agg (poA ⟨x.p0, x.p1, x.p2, x.p3, x.p4, x.p5, x.p6, x.p7, x.p8, x.p9, x.p10, x.p11, x.p12, x.p13, x.p14, x.p15, x.p16, x.p17, x.p18, x.p19, x.p20⟩)) (by rfl) (kb_all K3.out 0 rfl 62 _ rfl rfl Try.underlying62 rfl (size50)) ?_
        (try simp only [Act.put, List.getElem_toArray, List.getElem_cons_succ, List.getElem_cons_zero, List.setIfInBounds_toArray, List.set_cons_zero, List.set_cons_succ])
        refine kb_call K3.out 27 #[.agg (poA ⟨x.p0, x.p1, x.p2, x.p3, x.p4, x.p5, x.p6, x.p7, x.p8, x.p9, x.p10, x.p11, x.p12, x.p13, x.p14, x.p15, x.p16, x.p17, x.p18, x.p19, x.p20⟩)] (.bool true) (by rfl) (by go_simp) (CO.out true hon w3) ?_
        intro w4 hk
        have K4 := Lib.hid (show Kb w [(b1, poA ⟨x.p0, x.p1, x.p2, x.p3, x.p4, x.p5, x.p6, x.p7, x.p8, x.p9, x.p10, x.p11, x.p12, x.p13, x.p14, x.p15, x.p16, x.p17, x.p18, x.p19, x.p20⟩, 62), (b2, cfA c, 58), (b3, nil21, 62)] w4 from hk)
        clear hk
        (try simp only [Act.put, List.getElem_toArray, List.getElem_cons_succ, List.getElem_cons_zero, List.setIfInBounds_toArray, List.set_cons_zero, List.set_cons_succ])
        refine wpList_val (.bool true) (by rfl) (by go_simp) ?_
        (try simp only [Act.put, List.getElem_toArray, List.getElem_cons_succ, List.getElem_cons_zero, List.setIfInBounds_toArray, List.set_cons_zero, List.set_cons_succ])
        refine wpList_nil ?_
        go_upto_region 2 with fail
        refine wp_region_lit ?_
        refine wpList_val (.bool false) (by rfl) (by go_simp) ?_
        (try simp only [Act.put, List.getElem_toArray, List.getElem_cons_succ, List.getElem_cons_zero, List.setIfInBounds_toArray, List.set_cons_zero, List.set_cons_succ])
        refine wpList_val (.bool false) (by rfl) (by go_simp) ?_
        (try simp only [Act.put, List.getElem_toArray, List.getElem_cons_succ, List.getElem_cons_zero, List.setIfInBounds_toArray, List.set_cons_zero, List.set_cons_succ])
        refine wpList_val (.pointer (some ⟨b1, 7, none⟩)) (by rfl) (by go_simp) ?_
        (try simp only [Act.put, List.getElem_toArray, List.getElem_cons_succ, List.getElem_cons_zero, List.setIfInBounds_toArray, List.set_cons_zero, List.set_cons_succ])
        refine kb_set K4.out 0 rfl 4 _ _ 7 (.bool false) rfl (by rfl) rfl rfl (kb_run_set K4.out (i := 0) rfl 4 7 (.bool x.p7) (.bool false) (by rfl) (fun W h1 h2 => by go_simp)) (poA ⟨x.p0, x.p1, x.p2, x.p3, x.p4, x.p5, x.p6, false, x.p8, x.p9, x.p10, x.p11, x.p12, x.p13, x.p14, x.p15, x.p16, x.p17, x.p18, x.p19, x.p20⟩) (by kernel_rfl) ?_
        intro w5 hk
        have K5 := Lib.hid (show Kb w [(b1, poA ⟨x.p0, x.p1, x.p2, x.p3, x.p4, x.p5, x.p6, false, x.p8, x.p9, x.p10, x.p11, x.p12, x.p13, x.p14, x.p15, x.p16, x.p17, x.p18, x.p19, x.p20⟩, 62), (b2, cfA c, 58), (b3, nil21, 62)] w5 from hk)
        clear hk
        (try simp only [Act.put, List.getElem_toArray, List.getElem_cons_succ, List.getElem_cons_zero, List.setIfInBounds_toArray, List.set_cons_zero, List.set_cons_succ])
        refine wpList_val (.pointer (some ⟨b1, 6, none⟩)) (by rfl) (by go_simp) ?_
        (try simp only [Act.put, List.getElem_toArray, List.getElem_cons_succ, List.getElem_cons_zero, List.setIfInBounds_toArray, List.set_cons_zero, List.set_cons_succ])
        refine kb_set K5.out 0 rfl 4 _ _ 6 (.bool false) rfl (by rfl) rfl rfl (kb_run_set K5.out (i := 0) rfl 4 6 (.bool x.p6) (.bool false) (by rfl) (fun W h1 h2 => by go_simp)) (poA ⟨x.p0, x.p1, x.p2, x.p3, x.p4, x.p5, false, false, x.p8, x.p9, x.p10, x.p11, x.p12, x.p13, x.p14, x.p15, x.p16, x.p17, x.p18, x.p19, x.p20⟩) (by kernel_rfl) ?_
        intro w6 hk
        have K6 := Lib.hid (show Kb w [(b1, poA ⟨x.p0, x.p1, x.p2, x.p3, x.p4, x.p5, false, false, x.p8, x.p9, x.p10, x.p11, x.p12, x.p13, x.p14, x.p15, x.p16, x.p17, x.p18, x.p19, x.p20⟩, 62), (b2, cfA c, 58), (b3, nil21, 62)] w6 from hk)
        clear hk
        (try simp only [Act.put, List.getElem_toArray, List.getElem_cons_succ, List.getElem_cons_zero, List.setIfInBounds_toArray, List.set_cons_zero, List.set_cons_succ])
        refine wpList_nil ?_
        go_upto_region 3 with fail
        refine wp_region_lit ?_
        refine wpList_val (.agg (poA ⟨x.p0, x.p1, x.p2, x.p3, x.p4, x.p5, false, false, x.p8, x.p9, x.p10, x.p11, x.p12, x.p13, x.p14, x.p15, x.p16, x.p17, x.p18, x.p19, x.p20⟩)) (by rfl) (kb_all K6.out 0 rfl 62 _ rfl rfl Try.underlying62 rfl (size50)) ?_
        (try simp only [Act.put, List.getElem_toArray, List.getElem_cons_succ, List.getElem_cons_zero, List.setIfInBounds_toArray, List.set_cons_zero, List.set_cons_succ])
        refine kb_call K6.out 27 #[.agg (poA ⟨x.p0, x.p1, x.p2, x.p3, x.p4, x.p5, false, false, x.p8, x.p9, x.p10, x.p11, x.p12, x.p13, x.p14, x.p15, x.p16, x.p17, x.p18, x.p19, x.p20⟩)] (.bool false) (by rfl) (by go_simp) (on_is ⟨x.p0, x.p1, x.p2, x.p3, x.p4, x.p5, false, false, x.p8, x.p9, x.p10, x.p11, x.p12, x.p13, x.p14, x.p15, x.p16, x.p17, x.p18, x.p19, x.p20⟩ false rfl w6) ?_
        intro w7 hk
        have K7 := Lib.hid (show Kb w [(b1, poA ⟨x.p0, x.p1, x.p2, x.p3, x.p4, x.p5, false, false, x.p8, x.p9, x.p10, x.p11, x.p12, x.p13, x.p14, x.p15, x.p16, x.p17, x.p18, x.p19, x.p20⟩, 62), (b2, cfA c, 58), (b3, nil21, 62)] w7 from hk)
        clear hk
        (try simp only [Act.put, List.getElem_toArray, List.getElem_cons_succ, List.getElem_cons_zero, List.setIfInBounds_toArray, List.set_cons_zero, List.set_cons_succ])
        refine wpList_val (.bool true) (by rfl) (by go_simp) ?_
        (try simp only [Act.put, List.getElem_toArray, List.getElem_cons_succ, List.getElem_cons_zero, List.setIfInBounds_toArray, List.set_cons_zero, List.set_cons_succ])
        refine wpList_val (.bool true) (by rfl) (by go_simp) ?_
        (try simp only [Act.put, List.getElem_toArray, List.getElem_cons_succ, List.getElem_cons_zero, List.setIfInBounds_toArray, List.set_cons_zero, List.set_cons_succ])
        refine wpList_nil ?_
        go_upto_region 4 with fail
        refine wp_region_lit ?_
        refine wpList_val (.agg (poA ⟨x.p0, x.p1, x.p2, x.p3, x.p4, x.p5, false, false, x.p8, x.p9, x.p10, x.p11, x.p12, x.p13, x.p14, x.p15, x.p16, x.p17, x.p18, x.p19, x.p20⟩)) (by rfl) (kb_all K7.out 0 rfl 62 _ rfl rfl Try.underlying62 rfl (size50)) ?_
        (try simp only [Act.put, List.getElem_toArray, List.getElem_cons_succ, List.getElem_cons_zero, List.setIfInBounds_toArray, List.set_cons_zero, List.set_cons_succ])
        refine kb_call K7.out 29 #[.agg (poA ⟨x.p0, x.p1, x.p2, x.p3, x.p4, x.p5, false, false, x.p8, x.p9, x.p10, x.p11, x.p12, x.p13, x.p14, x.p15, x.p16, x.p17, x.p18, x.p19, x.p20⟩)] (.agg (poA ⟨x.p0, x.p1, x.p2, x.p3, x.p4, x.p5, false, false, false, false, 0, 0, 0, 0, 0, 0, 0, 0, 0, 0, 0⟩)) (by rfl) (by go_simp) (cold_of ⟨x.p0, x.p1, x.p2, x.p3, x.p4, x.p5, false, false, x.p8, x.p9, x.p10, x.p11, x.p12, x.p13, x.p14, x.p15, x.p16, x.p17, x.p18, x.p19, x.p20⟩ ⟨x.p0, x.p1, x.p2, x.p3, x.p4, x.p5, false, false, false, false, 0, 0, 0, 0, 0, 0, 0, 0, 0, 0, 0⟩ rfl w7) ?_
        intro w8 hk
        have K8 := Lib.hid (show Kb w [(b1, poA ⟨x.p0, x.p1, x.p2, x.p3, x.p4, x.p5, false, false, x.p8, x.p9, x.p10, x.p11, x.p12, x.p13, x.p14, x.p15, x.p16, x.p17, x.p18, x.p19, x.p20⟩, 62), (b2, cfA c, 58), (b3, nil21, 62)] w8 from hk)
        clear hk
        (try simp only [Act.put, List.getElem_toArray, List.getElem_cons_succ, List.getElem_cons_zero, List.setIfInBounds_toArray, List.set_cons_zero, List.set_cons_succ])
        refine kb_row K8.out 2 rfl 62 _ _ (poA ⟨x.p0, x.p1, x.p2, x.p3, x.p4, x.p5, false, false, false, false, 0, 0, 0, 0, 0, 0, 0, 0, 0, 0, 0⟩) rfl rfl rfl rfl (size50) (by rfl) (po_all _) ?_
        intro w9 hk
        have K9 := Lib.hid (show Kb w [(b1, poA ⟨x.p0, x.p1, x.p2, x.p3, x.p4, x.p5, false, false, x.p8, x.p9, x.p10, x.p11, x.p12, x.p13, x.p14, x.p15, x.p16, x.p17, x.p18, x.p19, x.p20⟩, 62), (b2, cfA c, 58), (b3, poA ⟨x.p0, x.p1, x.p2, x.p3, x.p4, x.p5, false, false, false, false, 0, 0, 0, 0, 0, 0, 0, 0, 0, 0, 0⟩, 62)] w9 from hk)
        clear hk
        (try simp only [Act.put, List.getElem_toArray, List.getElem_cons_succ, List.getElem_cons_zero, List.setIfInBounds_toArray, List.set_cons_zero, List.set_cons_succ])
        refine wpList_nil ?_
        go_wp2_with fail
        refine bodyPost_ret (v := .agg (poA ⟨x.p0, x.p1, x.p2, x.p3, x.p4, x.p5, false, false, false, false, 0, 0, 0, 0, 0, 0, 0, 0, 0, 0, 0⟩)) (results_cell_row Try.results19 _ _ b3 62 (poA ⟨x.p0, x.p1, x.p2, x.p3, x.p4, x.p5, false, false, false, false, 0, 0, 0, 0, 0, 0, 0, 0, 0, 0, 0⟩) (0, 0) _ rfl (K9.out.at (i := 2) rfl) Try.underlying62 rfl (po_info _)) rfl ?_
        exact ⟨rfl, K9.out.below⟩
      case true =>
        have hP : switchP x false true c.p3 = ⟨x.p0, x.p1, x.p2, x.p3, x.p4, x.p5, true, false, false, false, 0, 0, 0, 0, 0, 0, 0, 0, 0, 0, 0⟩ := by unfold switchP; simp [hon]
        rw [hP]
        clear hP
        rw [show poV x = .agg (poA ⟨x.p0, x.p1, x.p2, x.p3, x.p4, x.p5, x.p6, x.p7, x.p8, x.p9, x.p10, x.p11, x.p12, x.p13, x.p14, x.p15, x.p16, x.p17, x.p18, x.p19, x.p20⟩) from rfl]
        have K := Lib.hid (Kb.nil w)
        go_enter Try.func19, Try.ntmps19
        go_upto_region 0 with fail
        refine wp_region_lit ?_
        refine kb_box K.out 62 (.tmp 0) (poA ⟨x.p0, x.p1, x.p2, x.p3, x.p4, x.p5, x.p6, x.p7, x.p8, x.p9, x.p10, x.p11, x.p12, x.p13, x.p14, x.p15, x.p16, x.p17, x.p18, x.p19, x.p20⟩) rfl rfl (by rfl) ?_
        intro b1 w1 hb1 hk
        have K1 := Lib.hid (show Kb w [(b1, poA ⟨x.p0, x.p1, x.p2, x.p3, x.p4, x.p5, x.p6, x.p7, x.p8, x.p9, x.p10, x.p11, x.p12, x.p13, x.p14, x.p15, x.p16, x.p17, x.p18, x.p19, x.p20⟩, 62)] w1 from hk)
        clear hk hb1
        (try simp only [Act.put, List.getElem_toArray, List.getElem_cons_succ, List.getElem_cons_zero, List.setIfInBounds_toArray, List.set_cons_zero, List.set_cons_succ])
        refine kb_box K1.out 58 (.tmp 3) (cfA c) rfl rfl (by rfl) ?_
        intro b2 w2 hb2 hk
        have K2 := Lib.hid (show Kb w [(b1, poA ⟨x.p0, x.p1, x.p2, x.p3, x.p4, x.p5, x.p6, x.p7, x.p8, x.p9, x.p10, x.p11, x.p12, x.p13, x.p14, x.p15, x.p16, x.p17, x.p18, x.p19, x.p20⟩, 62), (b2, cfA c, 58)] w2 from hk)
        clear hk hb2
        (try simp only [Act.put, List.getElem_toArray, List.getElem_cons_succ, List.getElem_cons_zero, List.setIfInBounds_toArray, List.set_cons_zero, List.set_cons_succ])
        refine kb_alloc K2.out 62 (nil21) rfl z50 (by rfl) ?_
        intro b3 w3 hb3 hk
        have K3 := Lib.hid (show Kb w [(b1, poA ⟨x.p0, x.p1, x.p2, x.p3, x.p4, x.p5, x.p6, x.p7, x.p8, x.p9, x.p10, x.p11, x.p12, x.p13, x.p14, x.p15, x.p16, x.p17, x.p18, x.p19, x.p20⟩, 62), (b2, cfA c, 58), (b3, nil21, 62)] w3 from hk)
        clear hk hb3
        (try simp only [Act.put, List.getElem_toArray, List.getElem_cons_succ, List.getElem_cons_zero, List.setIfInBounds_toArray, List.set_cons_zero, List.set_cons_succ])
        refine wpList_nil ?_
        go_upto_region 1 with fail
        refine wp_region_lit ?_
        refine wpList_val (.agg (poA ⟨x.p0, x.p1, x.p2, x.p3, x.p4, x.p5, x.p6, x.p7, x.p8, x.p9, x.p10, x.p11, x.p12, x.p13, x.p14, x.p15, x.p16, x.p17, x.p18, x.p19, x.p20⟩)) (by rfl) (kb_all K3.out 0 rfl 62 _ rfl rfl Try.underlying62 rfl (size50)) ?_
        (try simp only [Act.put, List.getElem_toArray, List.getElem_cons_succ, List.getElem_cons_zero, List.setIfInBounds_toArray, List.set_cons_zero, List.set_cons_succ])
        refine kb_call K3.out 27 #[.agg (poA ⟨x.p0, x.p1, x.p2, x.p3, x.p4, x.p5, x.p6, x.p7, x.p8, x.p9, x.p10, x.p11, x.p12, x.p13, x.p14, x.p15, x.p16, x.p17, x.p18, x.p19, x.p20⟩)] (.bool true) (by rfl) (by go_simp) (CO.out true hon w3) ?_
        intro w4 hk
        have K4 := Lib.hid (show Kb w [(b1, poA ⟨x.p0, x.p1, x.p2, x.p3, x.p4, x.p5, x.p6, x.p7, x.p8, x.p9, x.p10, x.p11, x.p12, x.p13, x.p14, x.p15, x.p16, x.p17, x.p18, x.p19, x.p20⟩, 62), (b2, cfA c, 58), (b3, nil21, 62)] w4 from hk)
        clear hk
        (try simp only [Act.put, List.getElem_toArray, List.getElem_cons_succ, List.getElem_cons_zero, List.setIfInBounds_toArray, List.set_cons_zero, List.set_cons_succ])
        refine wpList_val (.bool true) (by rfl) (by go_simp) ?_
        (try simp only [Act.put, List.getElem_toArray, List.getElem_cons_succ, List.getElem_cons_zero, List.setIfInBounds_toArray, List.set_cons_zero, List.set_cons_succ])
        refine wpList_nil ?_
        go_upto_region 2 with fail
        refine wp_region_lit ?_
        refine wpList_val (.bool false) (by rfl) (by go_simp) ?_
        (try simp only [Act.put, List.getElem_toArray, List.getElem_cons_succ, List.getElem_cons_zero, List.setIfInBounds_toArray, List.set_cons_zero, List.set_cons_succ])
        refine wpList_val (.bool true) (by rfl) (by go_simp) ?_
        (try simp only [Act.put, List.getElem_toArray, List.getElem_cons_succ, List.getElem_cons_zero, List.setIfInBounds_toArray, List.set_cons_zero, List.set_cons_succ])
        refine wpList_val (.pointer (some ⟨b1, 7, none⟩)) (by rfl) (by go_simp) ?_
        (try simp only [Act.put, List.getElem_toArray, List.getElem_cons_succ, List.getElem_cons_zero, List.setIfInBounds_toArray, List.set_cons_zero, List.set_cons_succ])
        refine kb_set K4.out 0 rfl 4 _ _ 7 (.bool false) rfl (by rfl) rfl rfl (kb_run_set K4.out (i := 0) rfl 4 7 (.bool x.p7) (.bool false) (by rfl) (fun W h1 h2 => by go_simp)) (poA ⟨x.p0, x.p1, x.p2, x.p3, x.p4, x.p5, x.p6, false, x.p8, x.p9, x.p10, x.p11, x.p12, x.p13, x.p14, x.p15, x.p16, x.p17, x.p18, x.p19, x.p20⟩) (by kernel_rfl) ?_
        intro w5 hk
        have K5 := Lib.hid (show Kb w [(b1, poA ⟨x.p0, x.p1, x.p2, x.p3, x.p4, x.p5, x.p6, false, x.p8, x.p9, x.p10, x.p11, x.p12, x.p13, x.p14, x.p15, x.p16, x.p17, x.p18, x.p19, x.p20⟩, 62), (b2, cfA c, 58), (b3, nil21, 62)] w5 from hk)
        clear hk
        (try simp only [Act.put, List.getElem_toArray, List.getElem_cons_succ, List.getElem_cons_zero, List.setIfInBounds_toArray, List.set_cons_zero, List.set_cons_succ])
        refine wpList_val (.pointer (some ⟨b1, 6, none⟩)) (by rfl) (by go_simp) ?_
        (try simp only [Act.put, List.getElem_toArray, List.getElem_cons_succ, List.getElem_cons_zero, List.setIfInBounds_toArray, List.set_cons_zero, List.set_cons_succ])
        refine kb_set K5.out 0 rfl 4 _ _ 6 (.bool true) rfl (by rfl) rfl rfl (kb_run_set K5.out (i := 0) rfl 4 6 (.bool x.p6) (.bool true) (by rfl) (fun W h1 h2 => by go_simp)) (poA ⟨x.p0, x.p1, x.p2, x.p3, x.p4, x.p5, true, false, x.p8, x.p9, x.p10, x.p11, x.p12, x.p13, x.p14, x.p15, x.p16, x.p17, x.p18, x.p19, x.p20⟩) (by kernel_rfl) ?_
        intro w6 hk
        have K6 := Lib.hid (show Kb w [(b1, poA ⟨x.p0, x.p1, x.p2, x.p3, x.p4, x.p5, true, false, x.p8, x.p9, x.p10, x.p11, x.p12, x.p13, x.p14, x.p15, x.p16, x.p17, x.p18, x.p19, x.p20⟩, 62), (b2, cfA c, 58), (b3, nil21, 62)] w6 from hk)
        clear hk
        (try simp only [Act.put, List.getElem_toArray, List.getElem_cons_succ, List.getElem_cons_zero, List.setIfInBounds_toArray, List.set_cons_zero, List.set_cons_succ])
        refine wpList_nil ?_
        go_upto_region 3 with fail
        refine wp_region_lit ?_
        refine wpList_val (.agg (poA ⟨x.p0, x.p1, x.p2, x.p3, x.p4, x.p5, true, false, x.p8, x.p9, x.p10, x.p11, x.p12, x.p13, x.p14, x.p15, x.p16, x.p17, x.p18, x.p19, x.p20⟩)) (by rfl) (kb_all K6.out 0 rfl 62 _ rfl rfl Try.underlying62 rfl (size50)) ?_
        (try simp only [Act.put, List.getElem_toArray, List.getElem_cons_succ, List.getElem_cons_zero, List.setIfInBounds_toArray, List.set_cons_zero, List.set_cons_succ])
        refine kb_call K6.out 27 #[.agg (poA ⟨x.p0, x.p1, x.p2, x.p3, x.p4, x.p5, true, false, x.p8, x.p9, x.p10, x.p11, x.p12, x.p13, x.p14, x.p15, x.p16, x.p17, x.p18, x.p19, x.p20⟩)] (.bool false) (by rfl) (by go_simp) (on_is ⟨x.p0, x.p1, x.p2, x.p3, x.p4, x.p5, true, false, x.p8, x.p9, x.p10, x.p11, x.p12, x.p13, x.p14, x.p15, x.p16, x.p17, x.p18, x.p19, x.p20⟩ false rfl w6) ?_
        intro w7 hk
        have K7 := Lib.hid (show Kb w [(b1, poA ⟨x.p0, x.p1, x.p2, x.p3, x.p4, x.p5, true, false, x.p8, x.p9, x.p10, x.p11, x.p12, x.p13, x.p14, x.p15, x.p16, x.p17, x.p18, x.p19, x.p20⟩, 62), (b2, cfA c, 58), (b3, nil21, 62)] w7 from hk)
        clear hk
        (try simp only [Act.put, List.getElem_toArray, List.getElem_cons_succ, List.getElem_cons_zero, List.setIfInBounds_toArray, List.set_cons_zero, List.set_cons_succ])
        refine wpList_val (.bool true) (by rfl) (by go_simp) ?_
        (try simp only [Act.put, List.getElem_toArray, List.getElem_cons_succ, List.getElem_cons_zero, List.setIfInBounds_toArray, List.set_cons_zero, List.set_cons_succ])
        refine wpList_val (.bool true) (by rfl) (by go_simp) ?_
        (try simp only [Act.put, List.getElem_toArray, List.getElem_cons_succ, List.getElem_cons_zero, List.setIfInBounds_toArray, List.set_cons_zero, List.set_cons_succ])
        refine wpList_nil ?_
        go_upto_region 4 with fail
        refine wp_region_lit ?_
        refine wpList_val (.agg (poA ⟨x.p0, x.p1, x.p2, x.p3, x.p4, x.p5, true, false, x.p8, x.p9, x.p10, x.p11, x.p12, x.p13, x.p14, x.p15, x.p16, x.p17, x.p18, x.p19, x.p20⟩)) (by rfl) (kb_all K7.out 0 rfl 62 _ rfl rfl Try.underlying62 rfl (size50)) ?_
        (try simp only [Act.put, List.getElem_toArray, List.getElem_cons_succ, List.getElem_cons_zero, List.setIfInBounds_toArray, List.set_cons_zero, List.set_cons_succ])
        refine kb_call K7.out 29 #[.agg (poA ⟨x.p0, x.p1, x.p2, x.p3, x.p4, x.p5, true, false, x.p8, x.p9, x.p10, x.p11, x.p12, x.p13, x.p14, x.p15, x.p16, x.p17, x.p18, x.p19, x.p20⟩)] (.agg (poA ⟨x.p0, x.p1, x.p2, x.p3, x.p4, x.p5, true, false, false, false, 0, 0, 0, 0, 0, 0, 0, 0, 0, 0, 0⟩)) (by rfl) (by go_simp) (cold_of ⟨x.p0, x.p1, x.p2, x.p3, x.p4, x.p5, true, false, x.p8, x.p9, x.p10, x.p11, x.p12, x.p13, x.p14, x.p15, x.p16, x.p17, x.p18, x.p19, x.p20⟩ ⟨x.p0, x.p1, x.p2, x.p3, x.p4, x.p5, true, false, false, false, 0, 0, 0, 0, 0, 0, 0, 0, 0, 0, 0⟩ rfl w7) ?_
        intro w8 hk
        have K8 := Lib.hid (show Kb w [(b1, poA ⟨x.p0, x.p1, x.p2, x.p3, x.p4, x.p5, true, false, x.p8, x.p9, x.p10, x.p11, x.p12, x.p13, x.p14, x.p15, x.p16, x.p17, x.p18, x.p19, x.p20⟩, 62), (b2, cfA c, 58), (b3, nil21, 62)] w8 from hk)
        clear hk
        (try simp only [Act.put, List.getElem_toArray, List.getElem_cons_succ, List.getElem_cons_zero, List.setIfInBounds_toArray, List.set_cons_zero, List.set_cons_succ])
        refine kb_row K8.out 2 rfl 62 _ _ (poA ⟨x.p0, x.p1, x.p2, x.p3, x.p4, x.p5, true, false, false, false, 0, 0, 0, 0, 0, 0, 0, 0, 0, 0, 0⟩) rfl rfl rfl rfl (size50) (by rfl) (po_all _) ?_
        intro w9 hk
        have K9 := Lib.hid (show Kb w [(b1, poA ⟨x.p0, x.p1, x.p2, x.p3, x.p4, x.p5, true, false, x.p8, x.p9, x.p10, x.p11, x.p12, x.p13, x.p14, x.p15, x.p16, x.p17, x.p18, x.p19, x.p20⟩, 62), (b2, cfA c, 58), (b3, poA ⟨x.p0, x.p1, x.p2, x.p3, x.p4, x.p5, true, false, false, false, 0, 0, 0, 0, 0, 0, 0, 0, 0, 0, 0⟩, 62)] w9 from hk)
        clear hk
        (try simp only [Act.put, List.getElem_toArray, List.getElem_cons_succ, List.getElem_cons_zero, List.setIfInBounds_toArray, List.set_cons_zero, List.set_cons_succ])
        refine wpList_nil ?_
        go_wp2_with fail
        refine bodyPost_ret (v := .agg (poA ⟨x.p0, x.p1, x.p2, x.p3, x.p4, x.p5, true, false, false, false, 0, 0, 0, 0, 0, 0, 0, 0, 0, 0, 0⟩)) (results_cell_row Try.results19 _ _ b3 62 (poA ⟨x.p0, x.p1, x.p2, x.p3, x.p4, x.p5, true, false, false, false, 0, 0, 0, 0, 0, 0, 0, 0, 0, 0, 0⟩) (0, 0) _ rfl (K9.out.at (i := 2) rfl) Try.underlying62 rfl (po_info _)) rfl ?_
        exact ⟨rfl, K9.out.below⟩
    case true =>
      cases ad
      case false =>
        have hP : switchP x true false c.p3 = ⟨x.p0, x.p1, x.p2, x.p3, x.p4, x.p5, false, true, false, false, 0, 0, 0, 0, 0, 0, 0, 0, 0, 0, 0⟩ := by unfold switchP; simp [hon]
        rw [hP]
        clear hP
        rw [show poV x = .agg (poA ⟨x.p0, x.p1, x.p2, x.p3, x.p4, x.p5, x.p6, x.p7, x.p8, x.p9, x.p10, x.p11, x.p12, x.p13, x.p14, x.p15, x.p16, x.p17, x.p18, x.p19, x.p20⟩) from rfl]
        have K := Lib.hid (Kb.nil w)
        go_enter Try.func19, Try.ntmps19
        go_upto_region 0 with fail
        refine wp_region_lit ?_
        refine kb_box K.out 62 (.tmp 0) (poA ⟨x.p0, x.p1, x.p2, x.p3, x.p4, x.p5, x.p6, x.p7, x.p8, x.p9, x.p10, x.p11, x.p12, x.p13, x.p14, x.p15, x.p16, x.p17, x.p18, x.p19, x.p20⟩) rfl rfl (by rfl) ?_
        intro b1 w1 hb1 hk
        have K1 := Lib.hid (show Kb w [(b1, poA ⟨x.p0, x.p1, x.p2, x.p3, x.p4, x.p5, x.p6, x.p7, x.p8, x.p9, x.p10, x.p11, x.p12, x.p13, x.p14, x.p15, x.p16, x.p17, x.p18, x.p19, x.p20⟩, 62)] w1 from hk)
        clear hk hb1
        (try simp only [Act.put, List.getElem_toArray, List.getElem_cons_succ, List.getElem_cons_zero, List.setIfInBounds_toArray, List.set_cons_zero, List.set_cons_succ])
        refine kb_box K1.out 58 (.tmp 3) (cfA c) rfl rfl (by rfl) ?_
        intro b2 w2 hb2 hk
        have K2 := Lib.hid (show Kb w [(b1, poA ⟨x.p0, x.p1, x.p2, x.p3, x.p4, x.p5, x.p6, x.p7, x.p8, x.p9, x.p10, x.p11, x.p12, x.p13, x.p14, x.p15, x.p16, x.p17, x.p18, x.p19, x.p20⟩, 62), (b2, cfA c, 58)] w2 from hk)
        clear hk hb2
        (try simp only [Act.put, List.getElem_toArray, List.getElem_cons_succ, List.getElem_cons_zero, List.setIfInBounds_toArray, List.set_cons_zero, List.set_cons_succ])
        refine kb_alloc K2.out 62 (nil21) rfl z50 (by rfl) ?_
        intro b3 w3 hb3 hk
        have K3 := Lib.hid (show Kb w [(b1, poA ⟨x.p0, x.p1, x.p2, x.p3, x.p4, x.p5, x.p6, x.p7, x.p8, x.p9, x.p10, x.p11, x.p12, x.p13, x.p14, x.p15, x.p16, x.p17, x.p18, x.p19, x.p20⟩, 62), (b2, cfA c, 58), (b3, nil21, 62)] w3 from hk)
        clear hk hb3
        (try simp only [Act.put, List.getElem_toArray, List.getElem_cons_succ, List.getElem_cons_zero, List.setIfInBounds_toArray, List.set_cons_zero, List.set_cons_succ])
        refine wpList_nil ?_
        go_upto_region 1 with fail
        refine wp_region_lit ?_
        refine wpList_val (.agg (poA ⟨x.p0, x.p1, x.p2, x.p3, x.p4, x.p5, x.p6, x.p7, x.p8, x.p9, x.p10, x.p11, x.p12, x.p13, x.p14, x.p15, x.p16, x.p17, x.p18, x.p19, x.p20⟩)) (by rfl) (kb_all K3.out 0 rfl 62 _ rfl rfl Try.underlying62 rfl (size50)) ?_
        (try simp only [Act.put, List.getElem_toArray, List.getElem_cons_succ, List.getElem_cons_zero, List.setIfInBounds_toArray, List.set_cons_zero, List.set_cons_succ])
        refine kb_call K3.out 27 #[.agg (poA ⟨x.p0, x.p1, x.p2, x.p3, x.p4, x.p5, x.p6, x.p7, x.p8, x.p9, x.p10, x.p11, x.p12, x.p13, x.p14, x.p15, x.p16, x.p17, x.p18, x.p19, x.p20⟩)] (.bool true) (by rfl) (by go_simp) (CO.out true hon w3) ?_
        intro w4 hk
        have K4 := Lib.hid (show Kb w [(b1, poA ⟨x.p0, x.p1, x.p2, x.p3, x.p4, x.p5, x.p6, x.p7, x.p8, x.p9, x.p10, x.p11, x.p12, x.p13, x.p14, x.p15, x.p16, x.p17, x.p18, x.p19, x.p20⟩, 62), (b2, cfA c, 58), (b3, nil21, 62)] w4 from hk)
        clear hk
        (try simp only [Act.put, List.getElem_toArray, List.getElem_cons_succ, List.getElem_cons_zero, List.setIfInBounds_toArray, List.set_cons_zero, List.set_cons_succ])
        refine wpList_val (.bool true) (by rfl) (by go_simp) ?_
        (try simp only [Act.put, List.getElem_toArray, List.getElem_cons_succ, List.getElem_cons_zero, List.setIfInBounds_toArray, List.set_cons_zero, List.set_cons_succ])
        refine wpList_nil ?_
        go_upto_region 2 with fail
        refine wp_region_lit ?_
        refine wpList_val (.bool true) (by rfl) (by go_simp) ?_
        (try simp only [Act.put, List.getElem_toArray, List.getElem_cons_succ, List.getElem_cons_zero, List.setIfInBounds_toArray, List.set_cons_zero, List.set_cons_succ])
        refine wpList_val (.bool false) (by rfl) (by go_simp) ?_
        (try simp only [Act.put, List.getElem_toArray, List.getElem_cons_succ, List.getElem_cons_zero, List.setIfInBounds_toArray, List.set_cons_zero, List.set_cons_succ])
        refine wpList_val (.pointer (some ⟨b1, 7, none⟩)) (by rfl) (by go_simp) ?_
        (try simp only [Act.put, List.getElem_toArray, List.getElem_cons_succ, List.getElem_cons_zero, List.setIfInBounds_toArray, List.set_cons_zero, List.set_cons_succ])
        refine kb_set K4.out 0 rfl 4 _ _ 7 (.bool true) rfl (by rfl) rfl rfl (kb_run_set K4.out (i := 0) rfl 4 7 (.bool x.p7) (.bool true) (by rfl) (fun W h1 h2 => by go_simp)) (poA ⟨x.p0, x.p1, x.p2, x.p3, x.p4, x.p5, x.p6, true, x.p8, x.p9, x.p10, x.p11, x.p12, x.p13, x.p14, x.p15, x.p16, x.p17, x.p18, x.p19, x.p20⟩) (by kernel_rfl) ?_
        intro w5 hk
        have K5 := Lib.hid (show Kb w [(b1, poA ⟨x.p0, x.p1, x.p2, x.p3, x.p4, x.p5, x.p6, true, x.p8, x.p9, x.p10, x.p11, x.p12, x.p13, x.p14, x.p15, x.p16, x.p17, x.p18, x.p19, x.p20⟩, 62), (b2, cfA c, 58), (b3, nil21, 62)] w5 from hk)
        clear hk
        (try simp only [Act.put, List.getElem_toArray, List.getElem_cons_succ, List.getElem_cons_zero, List.setIfInBounds_toArray, List.set_cons_zero, List.set_cons_succ])
        refine wpList_val (.pointer (some ⟨b1, 6, none⟩)) (by rfl) (by go_simp) ?_
        (try simp only [Act.put, List.getElem_toArray, List.getElem_cons_succ, List.getElem_cons_zero, List.setIfInBounds_toArray, List.set_cons_zero, List.set_cons_succ])
        refine kb_set K5.out 0 rfl 4 _ _ 6 (.bool false) rfl (by rfl) rfl rfl (kb_run_set K5.out (i := 0) rfl 4 6 (.bool x.p6) (.bool false) (by rfl) (fun W h1 h2 => by go_simp)) (poA ⟨x.p0, x.p1, x.p2, x.p3, x.p4, x.p5, false, true, x.p8, x.p9, x.p10, x.p11, x.p12, x.p13, x.p14, x.p15, x.p16, x.p17, x.p18, x.p19, x.p20⟩) (by kernel_rfl) ?_
        intro w6 hk
        have K6 := Lib.hid (show Kb w [(b1, poA ⟨x.p0, x.p1, x.p2, x.p3, x.p4, x.p5, false, true, x.p8, x.p9, x.p10, x.p11, x.p12, x.p13, x.p14, x.p15, x.p16, x.p17, x.p18, x.p19, x.p20⟩, 62), (b2, cfA c, 58), (b3, nil21, 62)] w6 from hk)
        clear hk
        (try simp only [Act.put, List.getElem_toArray, List.getElem_cons_succ, List.getElem_cons_zero, List.setIfInBounds_toArray, List.set_cons_zero, List.set_cons_succ])
        refine wpList_nil ?_
        go_upto_region 3 with fail
        refine wp_region_lit ?_
        refine wpList_val (.agg (poA ⟨x.p0, x.p1, x.p2, x.p3, x.p4, x.p5, false, true, x.p8, x.p9, x.p10, x.p11, x.p12, x.p13, x.p14, x.p15, x.p16, x.p17, x.p18, x.p19, x.p20⟩)) (by rfl) (kb_all K6.out 0 rfl 62 _ rfl rfl Try.underlying62 rfl (size50)) ?_
        (try simp only [Act.put, List.getElem_toArray, List.getElem_cons_succ, List.getElem_cons_zero, List.setIfInBounds_toArray, List.set_cons_zero, List.set_cons_succ])
        refine kb_call K6.out 27 #[.agg (poA ⟨x.p0, x.p1, x.p2, x.p3, x.p4, x.p5, false, true, x.p8, x.p9, x.p10, x.p11, x.p12, x.p13, x.p14, x.p15, x.p16, x.p17, x.p18, x.p19, x.p20⟩)] (.bool false) (by rfl) (by go_simp) (on_is ⟨x.p0, x.p1, x.p2, x.p3, x.p4, x.p5, false, true, x.p8, x.p9, x.p10, x.p11, x.p12, x.p13, x.p14, x.p15, x.p16, x.p17, x.p18, x.p19, x.p20⟩ false rfl w6) ?_
        intro w7 hk
        have K7 := Lib.hid (show Kb w [(b1, poA ⟨x.p0, x.p1, x.p2, x.p3, x.p4, x.p5, false, true, x.p8, x.p9, x.p10, x.p11, x.p12, x.p13, x.p14, x.p15, x.p16, x.p17, x.p18, x.p19, x.p20⟩, 62), (b2, cfA c, 58), (b3, nil21, 62)] w7 from hk)
        clear hk
        (try simp only [Act.put, List.getElem_toArray, List.getElem_cons_succ, List.getElem_cons_zero, List.setIfInBounds_toArray, List.set_cons_zero, List.set_cons_succ])
        refine wpList_val (.bool true) (by rfl) (by go_simp) ?_
        (try simp only [Act.put, List.getElem_toArray, List.getElem_cons_succ, List.getElem_cons_zero, List.setIfInBounds_toArray, List.set_cons_zero, List.set_cons_succ])
        refine wpList_val (.bool true) (by rfl) (by go_simp) ?_
        (try simp only [Act.put, List.getElem_toArray, List.getElem_cons_succ, List.getElem_cons_zero, List.setIfInBounds_toArray, List.set_cons_zero, List.set_cons_succ])
        refine wpList_nil ?_
        go_upto_region 4 with fail
        refine wp_region_lit ?_
        refine wpList_val (.agg (poA ⟨x.p0, x.p1, x.p2, x.p3, x.p4, x.p5, false, true, x.p8, x.p9, x.p10, x.p11, x.p12, x.p13, x.p14, x.p15, x.p16, x.p17, x.p18, x.p19, x.p20⟩)) (by rfl) (kb_all K7.out 0 rfl 62 _ rfl rfl Try.underlying62 rfl (size50)) ?_
        (try simp only [Act.put, List.getElem_toArray, List.getElem_cons_succ, List.getElem_cons_zero, List.setIfInBounds_toArray, List.set_cons_zero, List.set_cons_succ])
        refine kb_call K7.out 29 #[.agg (poA ⟨x.p0, x.p1, x.p2, x.p3, x.p4, x.p5, false, true, x.p8, x.p9, x.p10, x.p11, x.p12, x.p13, x.p14, x.p15, x.p16, x.p17, x.p18, x.p19, x.p20⟩)] (.agg (poA ⟨x.p0, x.p1, x.p2, x.p3, x.p4, x.p5, false, true, false, false, 0, 0, 0, 0, 0, 0, 0, 0, 0, 0, 0⟩)) (by rfl) (by go_simp) (cold_of ⟨x.p0, x.p1, x.p2, x.p3, x.p4, x.p5, false, true, x.p8, x.p9, x.p10, x.p11, x.p12, x.p13, x.p14, x.p15, x.p16, x.p17, x.p18, x.p19, x.p20⟩ ⟨x.p0, x.p1, x.p2, x.p3, x.p4, x.p5, false, true, false, false, 0, 0, 0, 0, 0, 0, 0, 0, 0, 0, 0⟩ rfl w7) ?_
        intro w8 hk
        have K8 := Lib.hid (show Kb w [(b1, poA ⟨x.p0, x.p1, x.p2, x.p3, x.p4, x.p5, false, true, x.p8, x.p9, x.p10, x.p11, x.p12, x.p13, x.p14, x.p15, x.p16, x.p17, x.p18, x.p19, x.p20⟩, 62), (b2, cfA c, 58), (b3, nil21, 62)] w8 from hk)
        clear hk
        (try simp only [Act.put, List.getElem_toArray, List.getElem_cons_succ, List.getElem_cons_zero, List.setIfInBounds_toArray, List.set_cons_zero, List.set_cons_succ])
        refine kb_row K8.out 2 rfl 62 _ _ (poA ⟨x.p0, x.p1, x.p2, x.p3, x.p4, x.p5, false, true, false, false, 0, 0, 0, 0, 0, 0, 0, 0, 0, 0, 0⟩) rfl rfl rfl rfl (size50) (by rfl) (po_all _) ?_
        intro w9 hk
        have K9 := Lib.hid (show Kb w [(b1, poA ⟨x.p0, x.p1, x.p2, x.p3, x.p4, x.p5, false, true, x.p8, x.p9, x.p10, x.p11, x.p12, x.p13, x.p14, x.p15, x.p16, x.p17, x.p18, x.p19, x.p20⟩, 62), (b2, cfA c, 58), (b3, poA ⟨x.p0, x.p1, x.p2, x.p3, x.p4, x.p5, false, true, false, false, 0, 0, 0, 0, 0, 0, 0, 0, 0, 0, 0⟩, 62)] w9 from hk)
        clear hk
        (try simp only [Act.put, List.getElem_toArray, List.getElem_cons_succ, List.getElem_cons_zero, List.setIfInBounds_toArray, List.set_cons_zero, List.set_cons_succ])
        refine wpList_nil ?_
        go_wp2_with fail
        refine bodyPost_ret (v := .agg (poA ⟨x.p0, x.p1, x.p2, x.p3, x.p4, x.p5, false, true, false, false, 0, 0, 0, 0, 0, 0, 0, 0, 0, 0, 0⟩)) (results_cell_row Try.results19 _ _ b3 62 (poA ⟨x.p0, x.p1, x.p2, x.p3, x.p4, x.p5, false, true, false, false, 0, 0, 0, 0, 0, 0, 0, 0, 0, 0, 0⟩) (0, 0) _ rfl (K9.out.at (i := 2) rfl) Try.underlying62 rfl (po_info _)) rfl ?_
        exact ⟨rfl, K9.out.below⟩
      case true =>
        have hP : switchP x true true c.p3 = ⟨x.p0, x.p1, x.p2, x.p3, x.p4, x.p5, true, true, x.p8, x.p9, x.p10, x.p11, x.p12, x.p13, x.p14, x.p15, x.p16, x.p17, x.p18, x.p19, x.p20⟩ := by unfold switchP; simp [hon]
        rw [hP]
        clear hP
        rw [show poV x = .agg (poA ⟨x.p0, x.p1, x.p2, x.p3, x.p4, x.p5, x.p6, x.p7, x.p8, x.p9, x.p10, x.p11, x.p12, x.p13, x.p14, x.p15, x.p16, x.p17, x.p18, x.p19, x.p20⟩) from rfl]
        have K := Lib.hid (Kb.nil w)
        go_enter Try.func19, Try.ntmps19
        go_upto_region 0 with fail
        refine wp_region_lit ?_
        refine kb_box K.out 62 (.tmp 0) (poA ⟨x.p0, x.p1, x.p2, x.p3, x.p4, x.p5, x.p6, x.p7, x.p8, x.p9, x.p10, x.p11, x.p12, x.p13, x.p14, x.p15, x.p16, x.p17, x.p18, x.p19, x.p20⟩) rfl rfl (by rfl) ?_
        intro b1 w1 hb1 hk
        have K1 := Lib.hid (show Kb w [(b1, poA ⟨x.p0, x.p1, x.p2, x.p3, x.p4, x.p5, x.p6, x.p7, x.p8, x.p9, x.p10, x.p11, x.p12, x.p13, x.p14, x.p15, x.p16, x.p17, x.p18, x.p19, x.p20⟩, 62)] w1 from hk)
        clear hk hb1
        (try simp only [Act.put, List.getElem_toArray, List.getElem_cons_succ, List.getElem_cons_zero, List.setIfInBounds_toArray, List.set_cons_zero, List.set_cons_succ])
        refine kb_box K1.out 58 (.tmp 3) (cfA c) rfl rfl (by rfl) ?_
        intro b2 w2 hb2 hk
        have K2 := Lib.hid (show Kb w [(b1, poA ⟨x.p0, x.p1, x.p2, x.p3, x.p4, x.p5, x.p6, x.p7, x.p8, x.p9, x.p10, x.p11, x.p12, x.p13, x.p14, x.p15, x.p16, x.p17, x.p18, x.p19, x.p20⟩, 62), (b2, cfA c, 58)] w2 from hk)
        clear hk hb2
        (try simp only [Act.put, List.getElem_toArray, List.getElem_cons_succ, List.getElem_cons_zero, List.setIfInBounds_toArray, List.set_cons_zero, List.set_cons_succ])
        refine kb_alloc K2.out 62 (nil21) rfl z50 (by rfl) ?_
        intro b3 w3 hb3 hk
        have K3 := Lib.hid (show Kb w [(b1, poA ⟨x.p0, x.p1, x.p2, x.p3, x.p4, x.p5, x.p6, x.p7, x.p8, x.p9, x.p10, x.p11, x.p12, x.p13, x.p14, x.p15, x.p16, x.p17, x.p18, x.p19, x.p20⟩, 62), (b2, cfA c, 58), (b3, nil21, 62)] w3 from hk)
        clear hk hb3
        (try simp only [Act.put, List.getElem_toArray, List.getElem_cons_succ, List.getElem_cons_zero, List.setIfInBounds_toArray, List.set_cons_zero, List.set_cons_succ])
        refine wpList_nil ?_
        go_upto_region 1 with fail
        refine wp_region_lit ?_
        refine wpList_val (.agg (poA ⟨x.p0, x.p1, x.p2, x.p3, x.p4, x.p5, x.p6, x.p7, x.p8, x.p9, x.p10, x.p11, x.p12, x.p13, x.p14, x.p15, x.p16, x.p17, x.p18, x.p19, x.p20⟩)) (by rfl) (kb_all K3.out 0 rfl 62 _ rfl rfl Try.underlying62 rfl (size50)) ?_
        (try simp only [Act.put, List.getElem_toArray, List.getElem_cons_succ, List.getElem_cons_zero, List.setIfInBounds_toArray, List.set_cons_zero, List.set_cons_succ])
        refine kb_call K3.out 27 #[.agg (poA ⟨x.p0, x.p1, x.p2, x.p3, x.p4, x.p5, x.p6, x.p7, x.p8, x.p9, x.p10, x.p11, x.p12, x.p13, x.p14, x.p15, x.p16, x.p17, x.p18, x.p19, x.p20⟩)] (.bool true) (by rfl) (by go_simp) (CO.out true hon w3) ?_
        intro w4 hk
        have K4 := Lib.hid (show Kb w [(b1, poA ⟨x.p0, x.p1, x.p2, x.p3, x.p4, x.p5, x.p6, x.p7, x.p8, x.p9, x.p10, x.p11, x.p12, x.p13, x.p14, x.p15, x.p16, x.p17, x.p18, x.p19, x.p20⟩, 62), (b2, cfA c, 58), (b3, nil21, 62)] w4 from hk)
        clear hk
        (try simp only [Act.put, List.getElem_toArray, List.getElem_cons_succ, List.getElem_cons_zero, List.setIfInBounds_toArray, List.set_cons_zero, List.set_cons_succ])
        refine wpList_val (.bool true) (by rfl) (by go_simp) ?_
        (try simp only [Act.put, List.getElem_toArray, List.getElem_cons_succ, List.getElem_cons_zero, List.setIfInBounds_toArray, List.set_cons_zero, List.set_cons_succ])
        refine wpList_nil ?_
        go_upto_region 2 with fail
        refine wp_region_lit ?_
        refine wpList_val (.bool true) (by rfl) (by go_simp) ?_
        (try simp only [Act.put, List.getElem_toArray, List.getElem_cons_succ, List.getElem_cons_zero, List.setIfInBounds_toArray, List.set_cons_zero, List.set_cons_succ])
        refine wpList_val (.bool true) (by rfl) (by go_simp) ?_
        (try simp only [Act.put, List.getElem_toArray, List.getElem_cons_succ, List.getElem_cons_zero, List.setIfInBounds_toArray, List.set_cons_zero, List.set_cons_succ])
        refine wpList_val (.pointer (some ⟨b1, 7, none⟩)) (by rfl) (by go_simp) ?_
        (try simp only [Act.put, List.getElem_toArray, List.getElem_cons_succ, List.getElem_cons_zero, List.setIfInBounds_toArray, List.set_cons_zero, List.set_cons_succ])
        refine kb_set K4.out 0 rfl 4 _ _ 7 (.bool true) rfl (by rfl) rfl rfl (kb_run_set K4.out (i := 0) rfl 4 7 (.bool x.p7) (.bool true) (by rfl) (fun W h1 h2 => by go_simp)) (poA ⟨x.p0, x.p1, x.p2, x.p3, x.p4, x.p5, x.p6, true, x.p8, x.p9, x.p10, x.p11, x.p12, x.p13, x.p14, x.p15, x.p16, x.p17, x.p18, x.p19, x.p20⟩) (by kernel_rfl) ?_
        intro w5 hk
        have K5 := Lib.hid (show Kb w [(b1, poA ⟨x.p0, x.p1, x.p2, x.p3, x.p4, x.p5, x.p6, true, x.p8, x.p9, x.p10, x.p11, x.p12, x.p13, x.p14, x.p15, x.p16, x.p17, x.p18, x.p19, x.p20⟩, 62), (b2, cfA c, 58), (b3, nil21, 62)] w5 from hk)
        clear hk
        (try simp only [Act.put, List.getElem_toArray, List.getElem_cons_succ, List.getElem_cons_zero, List.setIfInBounds_toArray, List.set_cons_zero, List.set_cons_succ])
        refine wpList_val (.pointer (some ⟨b1, 6, none⟩)) (by rfl) (by go_simp) ?_
        (try simp only [Act.put, List.getElem_toArray, List.getElem_cons_succ, List.getElem_cons_zero, List.setIfInBounds_toArray, List.set_cons_zero, List.set_cons_succ])
        refine kb_set K5.out 0 rfl 4 _ _ 6 (.bool true) rfl (by rfl) rfl rfl (kb_run_set K5.out (i := 0) rfl 4 6 (.bool x.p6) (.bool true) (by rfl) (fun W h1 h2 => by go_simp)) (poA ⟨x.p0, x.p1, x.p2, x.p3, x.p4, x.p5, true, true, x.p8, x.p9, x.p10, x.p11, x.p12, x.p13, x.p14, x.p15, x.p16, x.p17, x.p18, x.p19, x.p20⟩) (by kernel_rfl) ?_
        intro w6 hk
        have K6 := Lib.hid (show Kb w [(b1, poA ⟨x.p0, x.p1, x.p2, x.p3, x.p4, x.p5, true, true, x.p8, x.p9, x.p10, x.p11, x.p12, x.p13, x.p14, x.p15, x.p16, x.p17, x.p18, x.p19, x.p20⟩, 62), (b2, cfA c, 58), (b3, nil21, 62)] w6 from hk)
        clear hk
        (try simp only [Act.put, List.getElem_toArray, List.getElem_cons_succ, List.getElem_cons_zero, List.setIfInBounds_toArray, List.set_cons_zero, List.set_cons_succ])
        refine wpList_nil ?_
        go_upto_region 3 with fail
        refine wp_region_lit ?_
        refine wpList_val (.agg (poA ⟨x.p0, x.p1, x.p2, x.p3, x.p4, x.p5, true, true, x.p8, x.p9, x.p10, x.p11, x.p12, x.p13, x.p14, x.p15, x.p16, x.p17, x.p18, x.p19, x.p20⟩)) (by rfl) (kb_all K6.out 0 rfl 62 _ rfl rfl Try.underlying62 rfl (size50)) ?_
        (try simp only [Act.put, List.getElem_toArray, List.getElem_cons_succ, List.getElem_cons_zero, List.setIfInBounds_toArray, List.set_cons_zero, List.set_cons_succ])
        refine kb_call K6.out 27 #[.agg (poA ⟨x.p0, x.p1, x.p2, x.p3, x.p4, x.p5, true, true, x.p8, x.p9, x.p10, x.p11, x.p12, x.p13, x.p14, x.p15, x.p16, x.p17, x.p18, x.p19, x.p20⟩)] (.bool true) (by rfl) (by go_simp) (on_is ⟨x.p0, x.p1, x.p2, x.p3, x.p4, x.p5, true, true, x.p8, x.p9, x.p10, x.p11, x.p12, x.p13, x.p14, x.p15, x.p16, x.p17, x.p18, x.p19, x.p20⟩ true rfl w6) ?_
        intro w7 hk
        have K7 := Lib.hid (show Kb w [(b1, poA ⟨x.p0, x.p1, x.p2, x.p3, x.p4, x.p5, true, true, x.p8, x.p9, x.p10, x.p11, x.p12, x.p13, x.p14, x.p15, x.p16, x.p17, x.p18, x.p19, x.p20⟩, 62), (b2, cfA c, 58), (b3, nil21, 62)] w7 from hk)
        clear hk
        (try simp only [Act.put, List.getElem_toArray, List.getElem_cons_succ, List.getElem_cons_zero, List.setIfInBounds_toArray, List.set_cons_zero, List.set_cons_succ])
        refine wpList_val (.bool false) (by rfl) (by go_simp) ?_
        (try simp only [Act.put, List.getElem_toArray, List.getElem_cons_succ, List.getElem_cons_zero, List.setIfInBounds_toArray, List.set_cons_zero, List.set_cons_succ])
        refine wpList_val (.bool false) (by rfl) (by go_simp) ?_
        (try simp only [Act.put, List.getElem_toArray, List.getElem_cons_succ, List.getElem_cons_zero, List.setIfInBounds_toArray, List.set_cons_zero, List.set_cons_succ])
        refine wpList_nil ?_
        go_upto_region 5 with fail
        refine wp_region_lit ?_
        refine wpList_val (.bool true) (by rfl) (by go_simp) ?_
        (try simp only [Act.put, List.getElem_toArray, List.getElem_cons_succ, List.getElem_cons_zero, List.setIfInBounds_toArray, List.set_cons_zero, List.set_cons_succ])
        refine wpList_val (.bool true) (by rfl) (by go_simp) ?_
        (try simp only [Act.put, List.getElem_toArray, List.getElem_cons_succ, List.getElem_cons_zero, List.setIfInBounds_toArray, List.set_cons_zero, List.set_cons_succ])
        refine wpList_nil ?_
        go_upto_region 6 with fail
        refine wp_region_lit ?_
        refine wpList_val (.agg (poA ⟨x.p0, x.p1, x.p2, x.p3, x.p4, x.p5, true, true, x.p8, x.p9, x.p10, x.p11, x.p12, x.p13, x.p14, x.p15, x.p16, x.p17, x.p18, x.p19, x.p20⟩)) (by rfl) (kb_all K7.out 0 rfl 62 _ rfl rfl Try.underlying62 rfl (size50)) ?_
        (try simp only [Act.put, List.getElem_toArray, List.getElem_cons_succ, List.getElem_cons_zero, List.setIfInBounds_toArray, List.set_cons_zero, List.set_cons_succ])
        refine kb_row K7.out 2 rfl 62 _ _ (poA ⟨x.p0, x.p1, x.p2, x.p3, x.p4, x.p5, true, true, x.p8, x.p9, x.p10, x.p11, x.p12, x.p13, x.p14, x.p15, x.p16, x.p17, x.p18, x.p19, x.p20⟩) rfl rfl rfl rfl (size50) (by rfl) (po_all _) ?_
        intro w8 hk
        have K8 := Lib.hid (show Kb w [(b1, poA ⟨x.p0, x.p1, x.p2, x.p3, x.p4, x.p5, true, true, x.p8, x.p9, x.p10, x.p11, x.p12, x.p13, x.p14, x.p15, x.p16, x.p17, x.p18, x.p19, x.p20⟩, 62), (b2, cfA c, 58), (b3, poA ⟨x.p0, x.p1, x.p2, x.p3, x.p4, x.p5, true, true, x.p8, x.p9, x.p10, x.p11, x.p12, x.p13, x.p14, x.p15, x.p16, x.p17, x.p18, x.p19, x.p20⟩, 62)] w8 from hk)
        clear hk
        (try simp only [Act.put, List.getElem_toArray, List.getElem_cons_succ, List.getElem_cons_zero, List.setIfInBounds_toArray, List.set_cons_zero, List.set_cons_succ])
        refine wpList_nil ?_
        go_wp2_with fail
        refine bodyPost_ret (v := .agg (poA ⟨x.p0, x.p1, x.p2, x.p3, x.p4, x.p5, true, true, x.p8, x.p9, x.p10, x.p11, x.p12, x.p13, x.p14, x.p15, x.p16, x.p17, x.p18, x.p19, x.p20⟩)) (results_cell_row Try.results19 _ _ b3 62 (poA ⟨x.p0, x.p1, x.p2, x.p3, x.p4, x.p5, true, true, x.p8, x.p9, x.p10, x.p11, x.p12, x.p13, x.p14, x.p15, x.p16, x.p17, x.p18, x.p19, x.p20⟩) (0, 0) _ rfl (K8.out.at (i := 2) rfl) Try.underlying62 rfl (po_info _)) rfl ?_
        exact ⟨rfl, K8.out.below⟩
end Go.Proofs.Ytojijeaofkndpaa
