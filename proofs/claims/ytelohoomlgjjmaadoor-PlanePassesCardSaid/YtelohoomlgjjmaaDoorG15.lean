import Derived.Test.YtelohoomlgjjmaaDoorG14
import Derived.Deep.Slices
import Derived.OpenShut
import Derived.Below
import Derived.WalkKit
import Derived.ProofKit
import Derived.Deep.OwnRows
set_option linter.unusedSimpArgs false
set_option linter.unusedVariables false
namespace Go.Proofs.YtelohoomlgjjmaaDoor
section
/- plane.learn, and Pass. -/
open Go.RowKit
attribute [local irreducible] wpQuiet wpList

theorem wl_call {P : Program} {ops : Array Oper} {Q : Exit → Act → World → Prop} {a : Act} {w : World} {rest : List Oper} {o : Oper} {R : Value → World → Prop} (f : FuncId) (args : Array Value) (hw : Region.wanted o (yielded ops a.tmps) = true) (hv : (execOp a.eval o).run P w = .ok (.enter f args) w)
    (hc : Calls P f args w fun e w' => ∃ v, e = .returned v ∧ R v w') (h : ∀ v w', R v w' → wpList P ops Q rest (a.put o.dst v) w') : wpList P ops Q (o :: rest) a w :=
  BigFrame.wpList_want hw fun K' hK => by
    unfold Oper.wp
    simp only [hv, Oper.upon]
    exact hc.mono fun e w' ⟨v, he, hr⟩ => by subst he; exact hK _ _ (h v w' hr)
section
variable {w0 w w' : World} {l : List (Nat × Array Value × TypeId)} {T T' P C N : Bd}
theorem Kx.inn (K : Kx w0 l (T.and C) w) : Kx w0 [] (T.and (C.and (bdK l))) w :=
  K.fold.turn (fun h => ⟨h.1.1, h.1.2, h.2⟩) (fun k h => by rcases h with h | h | h; exact .inl (.inl h); exact .inl (.inr h); exact .inr h)
theorem Kx.out (K : Kx w0 l (T.and C) w) (h : Kx w0 [] (T'.and (C.and (bdK l))) w') (hT : ∀ k, T'.f k → T.f k) : Kx w0 l (T'.and C) w' :=
  K.back (A' := T'.and C) (h.turn (fun h => ⟨⟨h.1, h.2.1⟩, h.2.2⟩) (fun k h => by rcases h with (h | h) | h; exact .inl h; exact .inr (.inl h); exact .inr (.inr h))) (fun k q => .inl (by rcases q with q | q; exact .inl (hT k q); exact .inr q))
theorem Kx.outN (K : Kx w0 l (T.and C) w) (h : Kx w0 [] ((T'.and (C.and (bdK l))).and N) w') (hT : ∀ k, T'.f k → T.f k) (hN : ∀ k, N.f k → ¬ (bdK l).f k) : Kx w0 l ((T'.and C).and N) w' :=
  ⟨⟨h.a.1.2.2, h.below, K.kb.new, K.kb.nd⟩, ⟨⟨h.a.1.1, h.a.1.2.1⟩, h.a.2⟩, fun x hx q => by
    rcases q with (q | q) | q
    · exact K.ap x hx (.inl (hT _ q))
    · exact K.ap x hx (.inr q)
    · exact hN _ q (List.mem_map.2 ⟨x, hx, rfl⟩), fun k q => by
    rcases q with (q | q) | q
    · exact h.nw k (.inl (.inl q))
    · exact h.nw k (.inl (.inr (.inl q)))
    · exact h.nw k (.inr q)⟩
theorem Kx.dis (K : Kx w0 l (T.and C) w) (hd : ∀ k, C.f k → ¬ T.f k) : ∀ k, (C.and (bdK l)).f k → ¬ T.f k := fun k h q => by
  rcases h with h | h
  · exact hd k h q
  · obtain ⟨x, hx, rfl⟩ := List.mem_map.1 h; exact K.ap x hx (.inl q)
end
theorem learn_arr {mo li : Int} {l : List En} {x : En} {l' : List En} {gv : Array Value} {full : Bool} (h : LearnR mo li l x l' gv full) : gv.size = 9 ∧ gv.all (·.oneCell') = true := by
  rcases h with ⟨-, -, rfl, -⟩ | ⟨-, -, -, rfl, -⟩ | ⟨-, -, z, -, -, rfl, -⟩
  · exact ⟨rfl, by kernel_rfl⟩
  · exact ⟨rfl, by kernel_rfl⟩
  · exact ⟨rfl, by simp [Value.oneCell']⟩
set_option maxRecDepth 100000 in
set_option maxHeartbeats 8000000 in
theorem plearn_any {w0 w : World} {i : Ix} {lv : List Vl} {ls : List Se} {lf : List En} {l : List (Nat × Array Value × TypeId)} {C : Bd} (K0 : Kx w0 l ((bdT w0 i lv ls lf).and C) w) (hd : ∀ k, C.f k → ¬ (bdT w0 i lv ls lf).f k) (hmo : 1 ≤ i.mo) (vid a : Nat) (port : Int) (ha : a < 281474976710656) :
    Calls Tryd.prog 28 #[.pointer (some ⟨i.b3, 0, none⟩), .agg (kyA vid a), .int .i64 port] w fun e w' => ∃ v, e = .returned v ∧ ∃ l' gv full, LearnR i.mo i.li lf ⟨vid, a, port, 0⟩ l' gv full ∧ v = .agg #[.slice none 0 0, .int .i64 0, .bool ((findF (keyN vid a) l').2 && !(findF (keyN vid a) lf).2), .bool full] ∧ Kx w0 l ((bdT w0 i lv ls l').and C) w' := by
  have HK0 := Lib.hid K0
  have HD := Lib.hid (K0.dis hd)
  have K := Lib.hid K0.inn
  have HMO := Lib.hid hmo
  have HA := Lib.hid ha
  clear K0 hd hmo ha
  obtain ⟨p1, hp1⟩ : ∃ p, p = (findF (keyN vid a) lf).1 := ⟨_, rfl⟩
  obtain ⟨wb, hwb⟩ : ∃ p, p = (findF (keyN vid a) lf).2 := ⟨_, rfl⟩
  have HF1 := Lib.hid (show ∀ W, T3 w0 i lv ls lf W → Calls Tryd.prog 12 #[.pointer (some ⟨i.b3, 0, none⟩), .agg (kyA vid a)] W fun e w' => e = .returned (.tuple #[.int .i64 p1, .bool wb]) ∧ Below W.heap.size W w' from fun W hW => by rw [hp1, hwb]; exact find_f vid a HA.out hW.tabF)
  rw [← hwb]
  clear hp1 hwb
  go_enter Tryd.func28, Tryd.ntmps28
  go_upto_region 0 with fail
  refine wp_region_lit ?_
  refine kx_box K.out 63 (.tmp 1) (kyA vid a) rfl rfl (by rfl) ?_
  intro b1 w1 hb1 hk
  have K1 := Lib.hid (show Kx w0 [(b1, kyA vid a, 63)] ((bdT w0 i lv ls lf).and (C.and (bdK l))) w1 from hk)
  clear hk hb1
  (try simp only [Act.put, gA, gS, gZ, sA, sZ, sS])
  refine kx_alloc K1.out 48 (#[.slice none 0 0, .int .i64 0, .bool false, .bool false]) rfl z4 (by rfl) ?_
  intro b2 w2 hb2 hk
  have K2 := Lib.hid (show Kx w0 [(b1, kyA vid a, 63), (b2, #[.slice none 0 0, .int .i64 0, .bool false, .bool false], 48)] ((bdT w0 i lv ls lf).and (C.and (bdK l))) w2 from hk)
  clear hk hb2
  (try simp only [Act.put, gA, gS, gZ, sA, sZ, sS])
  refine wpList_nil ?_
  go_upto_region 1 with fail
  refine wp_region_lit ?_
  refine wv (.pointer (some ⟨i.b3, 0, none⟩)) ?_
  (try simp only [Act.put, gA, gS, gZ, sA, sZ, sS])
  refine wv (.agg (kyA vid a)) ?_ (hrun := kx_all K2.out 0 rfl 63 _ rfl rfl Tryd.underlying63 rfl (kySizeP))
  (try simp only [Act.put, gA, gS, gZ, sA, sZ, sS])
  refine kx_call K2.out 12 #[.pointer (some ⟨i.b3, 0, none⟩), .agg (kyA vid a)] (.tuple #[.int .i64 p1, .bool wb]) (by rfl) (by go_simp) (HF1.out _ K2.out.a.1) ?_
  intro w3 hk
  have K3 := Lib.hid (show Kx w0 [(b1, kyA vid a, 63), (b2, #[.slice none 0 0, .int .i64 0, .bool false, .bool false], 48)] ((bdT w0 i lv ls lf).and (C.and (bdK l))) w3 from hk)
  clear hk
  (try simp only [Act.put, gA, gS, gZ, sA, sZ, sS])
  refine wv (.tuple #[.int .i64 p1, .bool wb]) ?_
  (try simp only [Act.put, gA, gS, gZ, sA, sZ, sS])
  refine wv (.int .i64 p1) ?_
  (try simp only [Act.put, gA, gS, gZ, sA, sZ, sS])
  refine wv (.bool wb) ?_
  (try simp only [Act.put, gA, gS, gZ, sA, sZ, sS])
  refine wv (.int .i64 p1) ?_
  (try simp only [Act.put, gA, gS, gZ, sA, sZ, sS])
  refine wv (.bool wb) ?_
  (try simp only [Act.put, gA, gS, gZ, sA, sZ, sS])
  refine wpList_nil ?_
  go_upto_region 2 with fail
  refine wp_region_lit ?_
  refine wv (.pointer (some ⟨i.b3, 0, none⟩)) ?_
  (try simp only [Act.put, gA, gS, gZ, sA, sZ, sS])
  refine wv (.agg (kyA vid a)) ?_ (hrun := kx_all K3.out 0 rfl 63 _ rfl rfl Tryd.underlying63 rfl (kySizeP))
  (try simp only [Act.put, gA, gS, gZ, sA, sZ, sS])
  refine wv (.int .i64 port) ?_
  (try simp only [Act.put, gA, gS, gZ, sA, sZ, sS])
  refine wl_call (R := fun v w' => ∃ l' gv full, LearnR i.mo i.li lf ⟨vid, a, port, 0⟩ l' gv full ∧ v = .tuple #[.agg gv, .bool full] ∧ Kx w0 [(b1, kyA vid a, 63), (b2, #[.slice none 0 0, .int .i64 0, .bool false, .bool false], 48)] ((bdT w0 i lv ls l').and (C.and (bdK l))) w') 13 #[.pointer (some ⟨i.b3, 0, none⟩), .agg (kyA vid a), .int .i64 port] (by rfl) (by go_simp) ((kx_learn K3.out HD.out vid a port HA.out HMO.out).mono fun e w2 h => by obtain ⟨l2, gv, full, q1, q2, q3⟩ := h; exact ⟨_, q2, l2, gv, full, q1, rfl, q3⟩) ?_
  rintro _ w20 ⟨l2, gv, full, hL, rfl, hk⟩
  have K20 := Lib.hid (show Kx w0 [(b1, kyA vid a, 63), (b2, #[.slice none 0 0, .int .i64 0, .bool false, .bool false], 48)] ((bdT w0 i lv ls l2).and (C.and (bdK l))) w20 from hk)
  have HL := Lib.hid hL
  obtain ⟨hg1, hg2⟩ := learn_arr hL
  have HG1 := Lib.hid hg1
  have HG2 := Lib.hid hg2
  clear hk hL hg1 hg2
  obtain ⟨p2, hp2⟩ : ∃ p, p = (findF (keyN vid a) l2).1 := ⟨_, rfl⟩
  obtain ⟨ib, hib⟩ : ∃ p, p = (findF (keyN vid a) l2).2 := ⟨_, rfl⟩
  have HIB := Lib.hid hib
  have HF2 := Lib.hid (show ∀ W, T3 w0 i lv ls l2 W → Calls Tryd.prog 12 #[.pointer (some ⟨i.b3, 0, none⟩), .agg (kyA vid a)] W fun e w' => e = .returned (.tuple #[.int .i64 p2, .bool ib]) ∧ Below W.heap.size W w' from fun W hW => by rw [hp2, hib]; exact find_f vid a HA.out hW.tabF)
  clear hp2 hib
  (try simp only [Act.put, gA, gS, gZ, sA, sZ, sS])
  refine wv (.tuple #[.agg gv, .bool full]) ?_
  (try simp only [Act.put, gA, gS, gZ, sA, sZ, sS])
  refine wv (.agg (gv)) ?_
  (try simp only [Act.put, gA, gS, gZ, sA, sZ, sS])
  refine wv (.bool full) ?_
  (try simp only [Act.put, gA, gS, gZ, sA, sZ, sS])
  refine kx_alloc K20.out 67 (enNilA) rfl zEn (by rfl) ?_
  intro b21 w21 hb21 hk
  have K21 := Lib.hid (show Kx w0 [(b1, kyA vid a, 63), (b2, #[.slice none 0 0, .int .i64 0, .bool false, .bool false], 48), (b21, enNilA, 67)] ((bdT w0 i lv ls l2).and (C.and (bdK l))) w21 from hk)
  clear hk hb21
  (try simp only [Act.put, gA, gS, gZ, sA, sZ, sS])
  refine kx_row K21.out 2 rfl 67 _ _ (gv) rfl rfl rfl rfl (by rw [HG1.out]; exact enSz) (by rw [HG1.out]; rfl) (HG2.out) ?_
  intro w22 hk
  have K22 := Lib.hid (show Kx w0 [(b1, kyA vid a, 63), (b2, #[.slice none 0 0, .int .i64 0, .bool false, .bool false], 48), (b21, gv, 67)] ((bdT w0 i lv ls l2).and (C.and (bdK l))) w22 from hk)
  clear hk
  (try simp only [Act.put, gA, gS, gZ, sA, sZ, sS])
  refine wv (.bool full) ?_
  (try simp only [Act.put, gA, gS, gZ, sA, sZ, sS])
  refine wpList_nil ?_
  go_upto_region 3 with fail
  refine wp_region_lit ?_
  refine wv (.pointer (some ⟨i.b3, 0, none⟩)) ?_
  (try simp only [Act.put, gA, gS, gZ, sA, sZ, sS])
  refine wv (.agg (kyA vid a)) ?_ (hrun := kx_all K22.out 0 rfl 63 _ rfl rfl Tryd.underlying63 rfl (kySizeP))
  (try simp only [Act.put, gA, gS, gZ, sA, sZ, sS])
  refine kx_call K22.out 12 #[.pointer (some ⟨i.b3, 0, none⟩), .agg (kyA vid a)] (.tuple #[.int .i64 p2, .bool ib]) (by rfl) (by go_simp) (HF2.out _ K22.out.a.1) ?_
  intro w23 hk
  have K23 := Lib.hid (show Kx w0 [(b1, kyA vid a, 63), (b2, #[.slice none 0 0, .int .i64 0, .bool false, .bool false], 48), (b21, gv, 67)] ((bdT w0 i lv ls l2).and (C.and (bdK l))) w23 from hk)
  clear hk
  (try simp only [Act.put, gA, gS, gZ, sA, sZ, sS])
  refine wv (.tuple #[.int .i64 p2, .bool ib]) ?_
  (try simp only [Act.put, gA, gS, gZ, sA, sZ, sS])
  refine wv (.int .i64 p2) ?_
  (try simp only [Act.put, gA, gS, gZ, sA, sZ, sS])
  refine wv (.bool ib) ?_
  (try simp only [Act.put, gA, gS, gZ, sA, sZ, sS])
  refine wv (.int .i64 p2) ?_
  (try simp only [Act.put, gA, gS, gZ, sA, sZ, sS])
  refine wv (.bool ib) ?_
  (try simp only [Act.put, gA, gS, gZ, sA, sZ, sS])
  refine wpList_nil ?_
  go_upto_region 4 with fail
  cases ib with
  | false =>
    refine wp_region_lit ?_
    refine wv (.bool false) ?_
    (try simp only [Act.put, gA, gS, gZ, sA, sZ, sS])
    refine wv (.bool false) ?_
    (try simp only [Act.put, gA, gS, gZ, sA, sZ, sS])
    refine wpList_skip (by kernel_rfl) ?_
    (try simp only [Act.put, gA, gS, gZ, sA, sZ, sS])
    refine wpList_skip (by kernel_rfl) ?_
    (try simp only [Act.put, gA, gS, gZ, sA, sZ, sS])
    refine wv (.bool false) ?_ (hrun := run_pick_no (.tmp 33) (.tmp 35) (.const (.bool false)) _ rfl rfl rfl)
    (try simp only [Act.put, gA, gS, gZ, sA, sZ, sS])
    refine wv (.bool full) ?_
    (try simp only [Act.put, gA, gS, gZ, sA, sZ, sS])
    refine wv (.agg (#[.slice none 0 0, .int .i64 0, .bool false, .bool full])) ?_ (hrun := run_build_of 48 [(2, .tmp 36), (3, .tmp 37)] rfl _ (#[.slice none 0 0, .int .i64 0, .bool false, .bool full]) rfl (by kernel_rfl))
    (try simp only [Act.put, gA, gS, gZ, sA, sZ, sS])
    refine kx_row K23.out 1 rfl 48 _ _ (#[.slice none 0 0, .int .i64 0, .bool false, .bool full]) rfl rfl rfl rfl (rsize) (by rfl) (by kernel_rfl) ?_
    intro w24 hk
    have K24 := Lib.hid (show Kx w0 [(b1, kyA vid a, 63), (b2, #[.slice none 0 0, .int .i64 0, .bool false, .bool full], 48), (b21, gv, 67)] ((bdT w0 i lv ls l2).and (C.and (bdK l))) w24 from hk)
    clear hk
    (try simp only [Act.put, gA, gS, gZ, sA, sZ, sS])
    refine wpList_nil ?_
    go_wp2_with fail
    refine bodyPost_ret (v := .agg (#[.slice none 0 0, .int .i64 0, .bool false, .bool full])) (results_cell_row Tryd.results28 _ _ b2 48 _ (0, 0) _ rfl (K24.out.at (i := 1) rfl) Tryd.underlying48 rfl rsize) rfl ?_
    exact ⟨_, rfl, l2, gv, full, HL.out, by rw [← HIB.out]; rfl, HK0.out.out (T' := bdT w0 i lv ls l2) (Kx.left (l := []) K24.out) (fun k q => q)⟩
  | true =>
    cases wb with
    | true =>
      refine wp_region_lit ?_
      refine wv (.bool true) ?_
      (try simp only [Act.put, gA, gS, gZ, sA, sZ, sS])
      refine wv (.bool true) ?_
      (try simp only [Act.put, gA, gS, gZ, sA, sZ, sS])
      refine wv (.bool true) ?_
      (try simp only [Act.put, gA, gS, gZ, sA, sZ, sS])
      refine wv (.bool false) ?_
      (try simp only [Act.put, gA, gS, gZ, sA, sZ, sS])
      refine wv (.bool false) ?_ (hrun := run_pick_yes (.tmp 33) (.tmp 35) (.const (.bool false)) _ rfl rfl rfl)
      (try simp only [Act.put, gA, gS, gZ, sA, sZ, sS])
      refine wv (.bool full) ?_
      (try simp only [Act.put, gA, gS, gZ, sA, sZ, sS])
      refine wv (.agg (#[.slice none 0 0, .int .i64 0, .bool false, .bool full])) ?_ (hrun := run_build_of 48 [(2, .tmp 36), (3, .tmp 37)] rfl _ (#[.slice none 0 0, .int .i64 0, .bool false, .bool full]) rfl (by kernel_rfl))
      (try simp only [Act.put, gA, gS, gZ, sA, sZ, sS])
      refine kx_row K23.out 1 rfl 48 _ _ (#[.slice none 0 0, .int .i64 0, .bool false, .bool full]) rfl rfl rfl rfl (rsize) (by rfl) (by kernel_rfl) ?_
      intro w24 hk
      have K24 := Lib.hid (show Kx w0 [(b1, kyA vid a, 63), (b2, #[.slice none 0 0, .int .i64 0, .bool false, .bool full], 48), (b21, gv, 67)] ((bdT w0 i lv ls l2).and (C.and (bdK l))) w24 from hk)
      clear hk
      (try simp only [Act.put, gA, gS, gZ, sA, sZ, sS])
      refine wpList_nil ?_
      go_wp2_with fail
      refine bodyPost_ret (v := .agg (#[.slice none 0 0, .int .i64 0, .bool false, .bool full])) (results_cell_row Tryd.results28 _ _ b2 48 _ (0, 0) _ rfl (K24.out.at (i := 1) rfl) Tryd.underlying48 rfl rsize) rfl ?_
      exact ⟨_, rfl, l2, gv, full, HL.out, by rw [← HIB.out]; rfl, HK0.out.out (T' := bdT w0 i lv ls l2) (Kx.left (l := []) K24.out) (fun k q => q)⟩
    | false =>
      refine wp_region_lit ?_
      refine wv (.bool true) ?_
      (try simp only [Act.put, gA, gS, gZ, sA, sZ, sS])
      refine wv (.bool true) ?_
      (try simp only [Act.put, gA, gS, gZ, sA, sZ, sS])
      refine wv (.bool false) ?_
      (try simp only [Act.put, gA, gS, gZ, sA, sZ, sS])
      refine wv (.bool true) ?_
      (try simp only [Act.put, gA, gS, gZ, sA, sZ, sS])
      refine wv (.bool true) ?_ (hrun := run_pick_yes (.tmp 33) (.tmp 35) (.const (.bool false)) _ rfl rfl rfl)
      (try simp only [Act.put, gA, gS, gZ, sA, sZ, sS])
      refine wv (.bool full) ?_
      (try simp only [Act.put, gA, gS, gZ, sA, sZ, sS])
      refine wv (.agg (#[.slice none 0 0, .int .i64 0, .bool true, .bool full])) ?_ (hrun := run_build_of 48 [(2, .tmp 36), (3, .tmp 37)] rfl _ (#[.slice none 0 0, .int .i64 0, .bool true, .bool full]) rfl (by kernel_rfl))
      (try simp only [Act.put, gA, gS, gZ, sA, sZ, sS])
      refine kx_row K23.out 1 rfl 48 _ _ (#[.slice none 0 0, .int .i64 0, .bool true, .bool full]) rfl rfl rfl rfl (rsize) (by rfl) (by kernel_rfl) ?_
      intro w24 hk
      have K24 := Lib.hid (show Kx w0 [(b1, kyA vid a, 63), (b2, #[.slice none 0 0, .int .i64 0, .bool true, .bool full], 48), (b21, gv, 67)] ((bdT w0 i lv ls l2).and (C.and (bdK l))) w24 from hk)
      clear hk
      (try simp only [Act.put, gA, gS, gZ, sA, sZ, sS])
      refine wpList_nil ?_
      go_wp2_with fail
      refine bodyPost_ret (v := .agg (#[.slice none 0 0, .int .i64 0, .bool true, .bool full])) (results_cell_row Tryd.results28 _ _ b2 48 _ (0, 0) _ rfl (K24.out.at (i := 1) rfl) Tryd.underlying48 rfl rsize) rfl ?_
      exact ⟨_, rfl, l2, gv, full, HL.out, by rw [← HIB.out]; rfl, HK0.out.out (T' := bdT w0 i lv ls l2) (Kx.left (l := []) K24.out) (fun k q => q)⟩
end
section
/- A slice of structs that came in, as a list. No program in sight. -/
open Go.ChangeShapes Go.WideShapes Go.RowKit Go.Deep

/-- The structs of a slice that came in, by their cells. -/
def RowsAt {α : Type} (w : World) (A : Option Addr) (size : Nat) (enc : α → List Value) (l : List α) : Prop :=
  l = [] ∨ ∃ b off, A = some ⟨b, off, none⟩ ∧ b < w.heap.size ∧ ∀ (i : Nat) (x : α), l[i]? = some x → ∀ (j : Nat) (u : Value), (enc x)[j]? = some u → w.cell? ⟨b, off + (i * size + j), none⟩ = some u

theorem cell_spot {w : World} {x : Addr} {u : Value} (h : w.cell? x = some u) : x.spot = none ∧ x.block < w.heap.size := by
  unfold World.cell? at h
  split at h
  · rename_i hb
    refine ⟨?_, (Array.getElem?_eq_some_iff.1 hb).1⟩
    split at h
    · simp at h
    · rename_i hs; simpa using hs
  · simp at h

theorem add_none (b o n : Nat) : (⟨b, o, none⟩ : Addr).add n = ⟨b, o + n, none⟩ := by
  unfold Addr.add
  split <;> simp_all

theorem RowsAt.same {α : Type} {w w' : World} {A : Option Addr} {size : Nat} {enc : α → List Value} {l : List α} (h : RowsAt w A size enc l) (hb : Below w.heap.size w w') : RowsAt w' A size enc l := by
  rcases h with rfl | ⟨b, off, rfl, hlt, h⟩
  · exact .inl rfl
  · refine .inr ⟨b, off, rfl, Nat.lt_of_lt_of_le hlt hb.size, fun i x hx j u hu => ?_⟩
    have e := hb.block b hlt
    have := h i x hx j u hu
    unfold World.cell? at this ⊢
    rw [e]
    exact this

theorem open_rows {P : Program} {H : Type} {en : TypeId × Value → H} {w : World} {base : Nat} {spare : Nat → Bool} {held : Bool} {t e : TypeId} {size : Nat} {α : Type} {a : Option Addr} {len cap : Nat} {d : DataW H} {p : List MemPlace}
    (enc : α → List Value) (ok : α → Prop) (ht : P.underlying t = some (.slice e)) (hc : P.cellsOf e = size) (hs : 0 < size) (henc : ∀ x, (enc x).length = size)
    (each : ∀ (fuel : Nat) (cs : List Value) (y : DataW H × List MemPlace), cs.length = size → DataW.trod en P w base spare held fuel e cs = some y → ∃ x : α, cs = enc x ∧ ok x)
    (h : DataW.Trod en P w base spare held t (.slice a len cap) d p) :
    ∃ l : List α, l.length = len ∧ RowsAt w a size enc l ∧ (∀ x ∈ l, ok x) ∧ (len ≤ cap ∧ cap ≤ maxLen) ∧ (a = none → len = 0 ∧ cap = 0) := by
  obtain ⟨fuel, hf⟩ := h
  rcases open_slice ht hf with ⟨hcs, -⟩ | ⟨x, len', cap', m, n, D, Pl, hcs, -, hl, hm, hmm, -, hi⟩
  · simp [Value.cells] at hcs
    obtain ⟨rfl, rfl, rfl⟩ := hcs
    exact ⟨[], rfl, .inl rfl, by simp, ⟨Nat.le_refl _, Nat.zero_le _⟩, fun _ => ⟨rfl, rfl⟩⟩
  · simp [Value.cells] at hcs
    obtain ⟨rfl, rfl, rfl⟩ := hcs
    have hlm : len ≤ m := by rw [hmm]; split <;> omega
    rw [hc] at hi
    have key : ∀ i : Fin len, ∃ v : α, ok v ∧ ∀ (j : Nat) (u : Value), (enc v)[j]? = some u → w.cell? ((x.add (i * size)).add j) = some u := by
      intro ⟨i, hil⟩
      obtain ⟨cs', hcell, htr⟩ := hi i (by omega)
      obtain ⟨_, hcl, hat⟩ := World.cells?_some hcell
      obtain ⟨v, rfl, hok⟩ := each _ _ _ hcl htr
      refine ⟨v, hok, fun j u hu => ?_⟩
      have hj : j < size := by rw [← henc v]; exact (List.getElem?_eq_some_iff.1 hu).1
      have := hat j (by omega)
      rw [this]
      simpa [List.getElem?_eq_some_iff] using hu
    let f : Fin len → α := fun i => Classical.choose (key i)
    have fs : ∀ i, ok (f i) ∧ ∀ (j : Nat) (u : Value), (enc (f i))[j]? = some u → w.cell? ((x.add (i * size)).add j) = some u := fun i => Classical.choose_spec (key i)
    refine ⟨List.ofFn f, by simp, ?_, ?_, ⟨hl, hm⟩, by simp⟩
    · rcases Nat.eq_zero_or_pos len with h0 | h0
      · subst h0; exact .inl (by simp)
      · have hx : x.spot = none ∧ x.block < w.heap.size := by
          have h1 : 0 < (enc (f ⟨0, h0⟩)).length := by rw [henc]; exact hs
          have := (fs ⟨0, h0⟩).2 0 _ (List.getElem?_eq_getElem h1)
          have q := cell_spot this
          simpa [Addr.add] using q
        obtain ⟨b, o, sp⟩ := x
        obtain ⟨h1, h2⟩ := hx
        simp only at h1 h2
        subst h1
        refine .inr ⟨b, o, rfl, h2, fun i v hv j u hu => ?_⟩
        obtain ⟨hil, rfl⟩ := List.getElem?_eq_some_iff.1 hv
        rw [List.length_ofFn] at hil
        rw [List.getElem_ofFn] at hu
        have := (fs ⟨i, hil⟩).2 j u hu
        rw [add_none, add_none, Nat.add_assoc] at this
        exact this
    · intro v hv
      obtain ⟨i, rfl⟩ := List.mem_ofFn.1 hv
      exact (fs i).1
end
section
/- The frames of the laws. -/
open Go.RowKit
attribute [local irreducible] wpQuiet wpList

structure Fg where
  po : Nat
  sr : Nat
  ds : Nat
  gr : Bool
  vi : Nat
  lo : Nat
def Fg.ok (y : Fg) : Prop := y.po < 256 ∧ y.sr < 256 ∧ y.ds < 256 ∧ y.vi < 256 ∧ y.lo < 65536
def fgA (y : Fg) : Array Value := #[.int .u8 (y.po : Nat), .int .u8 (y.sr : Nat), .int .u8 (y.ds : Nat), .bool y.gr, .int .u8 (y.vi : Nat), .int .u16 (y.lo : Nat)]
def fgC (y : Fg) : List Value := (fgA y).toList
theorem fgSize : (Tryd.prog.info? 45).map (·.size) = some 6 := by kernel_rfl
theorem fg_all (y : Fg) : (fgA y).all (·.oneCell') = true := by simp [fgA, Value.oneCell']
def zeroB (n : Nat) : ByteArray := ⟨(List.replicate n (0 : UInt8)).toArray⟩
theorem zeroB_size (n : Nat) : (zeroB n).size = n := by show (List.replicate n (0 : UInt8)).toArray.size = n; simp
def grN (ds : Nat) : Nat := 1652522221568 + ds
def ofM (y : Fg) : Fr := ⟨byteF (if y.gr = true then grN y.ds else y.ds % 8), byteF (y.sr % 8), decide (0 < y.vi % 6), 0, false, y.vi % 6 - 1, 2048, zeroB (y.lo % 1520)⟩
theorem ofM_ok (y : Fg) (h : y.ok) : (ofM y).ok := by
  obtain ⟨-, -, h3, -, -⟩ := h
  refine ⟨byteF_six _, byteF_six _, (by show (2048 : Nat) < 65536; omega), ?_, ⟨y.sr % 8, by omega, rfl⟩, ⟨if y.gr = true then grN y.ds else y.ds % 8, ?_, rfl⟩⟩
  · show (zeroB (y.lo % 1520)).size ≤ 1600
    rw [zeroB_size]; omega
  · unfold grN; split <;> omega
theorem built_gr (ds : Nat) (h : ds < 256) : Tryd.prog.built 40 [(0, .int .u8 1), (1, .int .u8 128), (2, .int .u8 194), (3, .int .u8 0), (4, .int .u8 0), (5, .int .u8 (ds : Nat))] = some (macA (byteF (grN ds))) := by
  obtain ⟨b0, b1, b2, b3, b4, b5⟩ := byteF_lit (grN ds)
  unfold macA
  unfold grN at b0 b1 b2 b3 b4 b5 ⊢
  rw [b0, b1, b2, b3, b4, b5, show (1652522221568 + ds) / 1099511627776 % 256 = 1 by omega, show (1652522221568 + ds) / 4294967296 % 256 = 128 by omega, show (1652522221568 + ds) / 16777216 % 256 = 194 by omega, show (1652522221568 + ds) / 65536 % 256 = 0 by omega, show (1652522221568 + ds) / 256 % 256 = 0 by omega, show (1652522221568 + ds) % 256 = ds by omega]
  kernel_rfl
theorem built_fr (a b n : Nat) : Tryd.prog.built 42 [(1, .agg (macA (byteF a))), (0, .agg (macA (byteF b))), (6, .int .u16 2048), (7, .string (zeroB n))] = some (fA ⟨byteF b, byteF a, false, 0, false, 0, 2048, zeroB n⟩) := by kernel_rfl
theorem sq {P : Program} {o : Oper} {w : World} {ρ : Operand → Value} {K : Value → World → Prop} (v : Value) (h : (execOp ρ o).run P w = .ok (.value v) w := by go_simp)
    (hK : K v w := by first | exact ⟨(), fun _ _ => rfl, rfl, hw⟩ | exact ⟨_, fun _ _ => rfl, rfl, hw⟩) : stepW P o ρ K w := stepW_val h hK
theorem wrS {k : IntKind} {x : Int} (h0 : 0 ≤ x) (h1 : x < 128) : k.wrap x = x := by
  cases k <;> simp [IntKind.wrap, IntKind.bits, IntKind.signed] <;> omega
theorem wrU {k : IntKind} {x : Int} (hk : k = .u16 ∨ k = .u32 ∨ k = .u64 ∨ k = .i64 ∨ k = .i32) (h0 : 0 ≤ x) (h1 : x < 65536) : k.wrap x = x := by
  rcases hk with rfl | rfl | rfl | rfl | rfl <;> simp [IntKind.wrap, IntKind.bits, IntKind.signed] <;> omega
theorem tmN {x : Nat} {m r : Int} (h : (x : Int) % m = r) : (x : Int).tmod m = r := by
  rw [Int.tmod_eq_emod_of_nonneg (Int.natCast_nonneg _)]
  exact h
theorem l_makeb {ρ : Operand → Value} {o : Oper} {w : World} (x : Operand) (n : Nat) (ho : o.op = .makeSlice 96 x x) (hx : ρ x = .int .i64 (n : Nat)) (hn : n ≤ 1600) : (execOp ρ o).run Tryd.prog w = .ok (.value (.slice (some ⟨w.heap.size, 0, none⟩) n n)) (w.alloc (.cells (madeCells #[.int .u8 0] n) 5)) := by
  unfold execOp
  simp only [ho, hx, Sem.run_bind, run_make_row' (P := Tryd.prog) 96 5 (.int .u8 0) 1 Tryd.underlying96 Tryd.info5 rfl .i64 .i64 n (by omega) (by omega) w, Result.andThen_ok, Sem.run_pure]
theorem l_text {ρ : Operand → Value} {o : Oper} {w : World} {g : Nat} (x : Operand) (n : Nat) (ho : o.op = .convert 96 9 x) (hx : ρ x = .slice (some ⟨g, 0, none⟩) n n) (hb : Blk w g (madeCells #[.int .u8 0] n) 5) : (execOp ρ o).run Tryd.prog w = .ok (.value (.string (zeroB n))) w := by
  have hh : Has w g ((List.replicate n (0 : UInt8)).map bv) := fun j hj => by
    refine ⟨?_, hb.free j⟩
    have hj' : j < n := by simpa using hj
    rw [hb.cell]
    have e : (madeCells #[Value.int .u8 0] n).toList = List.replicate n (.int .u8 0) := by have := made_one (.int .u8 0) rfl n; rw [Nat.mul_one] at this; exact this
    rw [← Array.getElem?_toList, e]
    simp [bv, hj']
  unfold execOp
  simp only [ho, hx, Sem.run_bind, hh.text 96 9 5 Tryd.underlying96 Tryd.underlying5 Tryd.underlying9 n (by simp), Result.andThen_ok, Sem.run_pure]
  rfl
theorem Kb.rowOther {w0 w : World} {l : List (Nat × Array Value × TypeId)} {b : Nat} (K : Kb w0 l w) (hb : ∀ x ∈ l, x.1 ≠ b) (hB : w0.heap.size ≤ b) (cs : Array Value) : Kb w0 l (w.setRow b cs) :=
  ⟨fun x hx => (K.all x hx).rowOther (hb x hx) cs, below_setRow K.below hB cs, K.new, K.nd⟩
set_option maxRecDepth 100000 in
set_option maxHeartbeats 8000000 in
theorem frof_any (y : Fg) (hy : y.ok) (w : World) : Calls Tryd.prog 7 #[.agg (fgA y)] w fun e w' => e = .returned (.agg (fA (ofM y))) ∧ Below w.heap.size w w' := by
  have HY := Lib.hid hy
  have K := Lib.hid (Kb.nil w)
  obtain ⟨r0, h0, l0⟩ : ∃ r : Nat, r = y.sr % 8 ∧ r < 8 := ⟨_, rfl, Nat.mod_lt _ (by decide)⟩
  obtain ⟨r1, h1, l1⟩ : ∃ r : Nat, r = y.ds % 8 ∧ r < 8 := ⟨_, rfl, Nat.mod_lt _ (by decide)⟩
  obtain ⟨r2, h2, l2⟩ : ∃ r : Nat, r = y.vi % 6 ∧ r < 6 := ⟨_, rfl, Nat.mod_lt _ (by decide)⟩
  obtain ⟨n, h3, l3⟩ : ∃ r : Nat, r = y.lo % 1520 ∧ r < 1520 := ⟨_, rfl, Nat.mod_lt _ (by decide)⟩
  have Hr0 := Lib.hid (show (y.sr : Int) % 8 = (r0 : Int) ∧ (r0 : Int) < 8 by omega)
  have Hr1 := Lib.hid (show (y.ds : Int) % 8 = (r1 : Int) ∧ (r1 : Int) < 8 by omega)
  have Hr2 := Lib.hid (show (y.vi : Int) % 6 = (r2 : Int) ∧ (r2 : Int) < 6 by omega)
  have Hr3 := Lib.hid (show (y.lo : Int) % 1520 = (n : Int) ∧ (n : Int) < 1520 by omega)
  have HYI := Lib.hid (show (y.sr : Int) < 256 ∧ (y.ds : Int) < 256 ∧ (y.vi : Int) < 256 ∧ (y.lo : Int) < 65536 by obtain ⟨q1, q2, q3, q4, q5⟩ := hy; omega)
  have HOF := Lib.hid (show ofM y = ⟨byteF (if y.gr = true then grN y.ds else r1), byteF r0, decide (0 < r2), 0, false, r2 - 1, 2048, zeroB n⟩ by unfold ofM; rw [h0, h1, h2, h3])
  have HNN := Lib.hid (show n ≤ 1600 by omega)
  clear hy h0 h1 h2 h3 l0 l1 l2 l3
  go_enter Tryd.func7, Tryd.ntmps7
  go_upto_region 0 with fail
  refine wp_region_lit ?_
  refine kb_box K.out 45 (.tmp 0) (fgA y) rfl rfl (by rfl) ?_
  intro b1 w1 hb1 hk
  have K1 := Lib.hid (show Kb w [(b1, fgA y, 45)] w1 from hk)
  clear hk hb1
  (try simp only [Act.put, gA, gS, gZ, sA, sZ, sS])
  refine kb_alloc K1.out 42 (nil18) rfl z18 (by rfl) ?_
  intro b2 w2 hb2 hk
  have K2 := Lib.hid (show Kb w [(b1, fgA y, 45), (b2, nil18, 42)] w2 from hk)
  clear hk hb2
  (try simp only [Act.put, gA, gS, gZ, sA, sZ, sS])
  refine wpList_nil ?_
  go_upto_region 1 with fail
  refine rk (fun (s : Nat × Nat) => [.pointer (some ⟨b1, 1, none⟩), .int .u8 (y.sr : Nat), .int .u8 (r0 : Nat), .int .u64 (r0 : Nat), .agg (macA (byteF r0)), .pointer (some ⟨b1, 2, none⟩), .int .u8 (y.ds : Nat), .int .u8 (r1 : Nat), .int .u64 (r1 : Nat), .agg (macA (byteF r1)), .pointer (some ⟨b1, 5, none⟩), .int .u16 (y.lo : Nat), .int .i64 (y.lo : Nat), .int .i64 (n : Nat), .slice (some ⟨s.1, 0, none⟩) n n, .string (zeroB n), .agg (fA (⟨(byteF r1), (byteF r0), false, 0, false, 0, 2048, zeroB n⟩ : Fr)), .pointer (some ⟨s.2, 0, none⟩), undef]) (fun s Lx w' => Kb w [(b1, fgA y, 45), (b2, nil18, 42)] w' ∧ (Lx 14 = true → Lx 15 = false → Blk w' s.1 (madeCells #[.int .u8 0] n) 5) ∧ (Lx 17 = true → Blk w' s.2 (bif Lx 18 then fA (⟨(byteF r1), (byteF r0), false, 0, false, 0, 2048, zeroB n⟩ : Fr) else nil18) 42 ∧ (∀ x ∈ [(b1, fgA y, 45), (b2, nil18, 42)], x.1 ≠ s.2) ∧ w.heap.size ≤ s.2)) (0, 0) [] [(1, fun s => ⟨b1, 1, none⟩), (6, fun s => ⟨b1, 2, none⟩), (11, fun s => ⟨b1, 5, none⟩)] [(2, fun s => [(5, .int .u8 (y.sr : Nat))]), (3, fun s => [(6, .int .u8 (r0 : Nat))]), (4, fun s => [(7, .int .u64 (r0 : Nat))]), (7, fun s => [(10, .int .u8 (y.ds : Nat))]), (8, fun s => [(11, .int .u8 (r1 : Nat))]), (9, fun s => [(12, .int .u64 (r1 : Nat))]), (12, fun s => [(15, .int .u16 (y.lo : Nat))]), (13, fun s => [(16, .int .i64 (y.lo : Nat))]), (14, fun s => [(17, .int .i64 (n : Nat))]), (15, fun s => [(18, .slice (some ⟨s.1, 0, none⟩) n n)]), (16, fun s => [(8, .agg (macA (byteF r0))), (13, .agg (macA (byteF r1))), (19, .string (zeroB n))]), (17, fun s => []), (18, fun s => [(3, .pointer (some ⟨s.2, 0, none⟩)), (20, .agg (fA (⟨(byteF r1), (byteF r0), false, 0, false, 0, 2048, zeroB n⟩ : Fr)))])] [14, 15, 17, 18] ?_ ?_ ?_ ?_ ?_
  · exact ⟨K2.out.drew, (fun q => by cases q), (fun q => by cases q)⟩
  · intro s L w' hw; exact ⟨fun _ => Kb.cell (i := 0) hw.1 rfl (by rfl), fun _ => Kb.cell (i := 0) hw.1 rfl (by rfl), fun _ => Kb.cell (i := 0) hw.1 rfl (by rfl), trivial⟩
  · intro s L1 L2 w' e h; (try dsimp only at h ⊢); rw [← e 14 (by simp), ← e 15 (by simp), ← e 17 (by simp), ← e 18 (by simp)]; exact h
  · refine ⟨?_, ?_, ?_, ?_, ?_, ?_, ?_, ?_, ?_, ?_, ?_, ?_, ?_, trivial⟩ <;> (rintro s Lx w' hw hL haft hdc ρ hc hf hG hs o ho; cases ho; try dsimp only [seen] at hw hs)
    · obtain ⟨e5, -⟩ := hs
      exact sq (.int .u8 (r0 : Nat)) (by have q0 := Hr0.out.1; have q2 := Hr0.out.2; have q1 := HYI.out; go_simp; first | exact wrS (by omega) (by omega) | exact wrU (by simp) (by omega) (by omega) | exact tmN q0 | omega)
    · obtain ⟨e6, -⟩ := hs
      exact sq (.int .u64 (r0 : Nat)) (by have q0 := Hr0.out.1; have q2 := Hr0.out.2; have q1 := HYI.out; go_simp; first | exact wrS (by omega) (by omega) | exact wrU (by simp) (by omega) (by omega) | exact tmN q0 | omega)
    · obtain ⟨e7, -⟩ := hs
      exact sc (.agg (macA (byteF r0))) 21 #[.int .u64 (r0 : Nat)] (fromInt_any r0 w') (by go_simp) (fun w2 hb => ⟨s, fun _ _ => rfl, rfl, hw.1.next hb, fun q1 q2 => (hw.2.1 q1 q2).below hb (hw.2.1 q1 q2).lt, fun q => ⟨(hw.2.2 q).1.below hb (hw.2.2 q).1.lt, (hw.2.2 q).2⟩⟩)
    · obtain ⟨e10, -⟩ := hs
      exact sq (.int .u8 (r1 : Nat)) (by have q0 := Hr1.out.1; have q2 := Hr1.out.2; have q1 := HYI.out; go_simp; first | exact wrS (by omega) (by omega) | exact wrU (by simp) (by omega) (by omega) | exact tmN q0 | omega)
    · obtain ⟨e11, -⟩ := hs
      exact sq (.int .u64 (r1 : Nat)) (by have q0 := Hr1.out.1; have q2 := Hr1.out.2; have q1 := HYI.out; go_simp; first | exact wrS (by omega) (by omega) | exact wrU (by simp) (by omega) (by omega) | exact tmN q0 | omega)
    · obtain ⟨e12, -⟩ := hs
      exact sc (.agg (macA (byteF r1))) 21 #[.int .u64 (r1 : Nat)] (fromInt_any r1 w') (by go_simp) (fun w2 hb => ⟨s, fun _ _ => rfl, rfl, hw.1.next hb, fun q1 q2 => (hw.2.1 q1 q2).below hb (hw.2.1 q1 q2).lt, fun q => ⟨(hw.2.2 q).1.below hb (hw.2.2 q).1.lt, (hw.2.2 q).2⟩⟩)
    · obtain ⟨e15, -⟩ := hs
      exact sq (.int .i64 (y.lo : Nat)) (by have q0 := Hr3.out.1; have q2 := Hr3.out.2; have q1 := HYI.out; go_simp; first | exact wrS (by omega) (by omega) | exact wrU (by simp) (by omega) (by omega) | exact tmN q0 | omega)
    · obtain ⟨e16, -⟩ := hs
      exact sq (.int .i64 (n : Nat)) (by have q0 := Hr3.out.1; have q2 := Hr3.out.2; have q1 := HYI.out; go_simp; first | exact wrS (by omega) (by omega) | exact wrU (by simp) (by omega) (by omega) | exact tmN q0 | omega)
    · obtain ⟨e17, -⟩ := hs
      obtain ⟨sa, sb⟩ := s
      have hb : Below w'.heap.size w' (w'.alloc (.cells (madeCells #[.int .u8 0] n) 5)) := (Below.refl _ _).alloc (Nat.le_refl _) _
      exact sw (w' := w'.alloc (.cells (madeCells #[.int .u8 0] n) 5)) (.slice (some ⟨w'.heap.size, 0, none⟩) n n) (l_makeb _ n rfl e17 HNN.out) ⟨(w'.heap.size, sb), vs_other (i := 14) rfl hL, rfl, hw.1.next hb, fun _ _ => Blk.new _ _ _, fun q => ⟨(hw.2.2 q).1.below hb (hw.2.2 q).1.lt, (hw.2.2 q).2⟩⟩
    · obtain ⟨e18, -⟩ := hs
      exact sw (.string (zeroB n)) (l_text _ n rfl e18 (hw.2.1 (haft 14 (by decide)) hL)) ⟨s, fun _ _ => rfl, rfl, hw.1, fun _ q => (by cases q), hw.2.2⟩
    · obtain ⟨e8, e13, e19, -⟩ := hs
      exact sq (.agg (fA (⟨(byteF r1), (byteF r0), false, 0, false, 0, 2048, zeroB n⟩ : Fr))) (l_build 42 [(1, .tmp 8), (0, .tmp 13), (6, .const (.int .u16 2048)), (7, .tmp 19)] rfl _ (fA (⟨(byteF r1), (byteF r0), false, 0, false, 0, 2048, zeroB n⟩ : Fr)) (by simp only [List.map_cons, List.map_nil, e8, e13, e19, hc]) (built_fr r0 r1 n))
    · skip
      obtain ⟨sa, sb⟩ := s
      have hb : Below w'.heap.size w' (w'.alloc (.cells nil18 42)) := (Below.refl _ _).alloc (Nat.le_refl _) _
      have h18 : Lx 18 = false := by cases cq : Lx 18; rfl; exact absurd (hdc 18 cq 17 (by decide)) (by rw [hL]; decide)
      have hz := z18 w'
      exact sw (w' := w'.alloc (.cells nil18 42)) (.pointer (some ⟨w'.heap.size, 0, none⟩)) (by go_simp) ⟨(sa, w'.heap.size), vs_other (i := 17) rfl hL, rfl, hw.1.next hb, fun q1 q2 => (hw.2.1 q1 q2).below hb (hw.2.1 q1 q2).lt, fun _ => ⟨by show Blk _ _ (bif Lx 18 then _ else _) _; rw [h18]; exact Blk.new _ _ _, fun x hx => by have := (hw.1.all x hx).lt; show x.1 ≠ w'.heap.size; omega, hw.1.below.size⟩⟩
    · obtain ⟨e3, e20, -⟩ := hs
      obtain ⟨h1, h2⟩ := hw.2.2 (haft 17 (by decide))
      rw [hL] at h1
      exact sr 42 _ _ rfl s.2 (fA (⟨(byteF r1), (byteF r0), false, 0, false, 0, 2048, zeroB n⟩ : Fr)) e3 e20 42 nil18 h1 (fA_size _) rfl (fA_one _) ⟨s, fun _ _ => rfl, rfl, Kb.rowOther hw.1 h2.1 h2.2 _, fun _ q => (by have q : Lx 15 = false := q; rw [hdc 16 (haft 16 (by decide)) 15 (by decide)] at q; cases q), fun _ => ⟨h1.row _, h2⟩⟩
  · rintro ⟨c1, c2⟩ Lx w20 ⟨hw, -, h17⟩ hall
    obtain ⟨hb2, hB2⟩ := h17 (hall 17 (by decide))
    rw [hall 18 (by decide)] at hb2
    clear h17 hall
    simp only [List.toList_toArray, putsZ_some, putsZ_none, putsZ_nil, List.setIfInBounds_toArray, List.set_cons_zero, List.set_cons_succ]
    have K20 := Lib.hid (show Kb w [(b1, fgA y, 45), (b2, nil18, 42), (c2, fA (⟨(byteF r1), (byteF r0), false, 0, false, 0, 2048, zeroB n⟩ : Fr), 42)] w20 from kb_add hw hb2 hB2.1 hB2.2)
    clear hw hb2 hB2
    go_upto_region 2 with fail
    obtain ⟨gr, hgr⟩ : ∃ b, b = y.gr := ⟨_, rfl⟩
    have HGR := Lib.hid hgr
    clear hgr
    refine wp_region_lit ?_
    refine wv (.pointer (some ⟨b1, 3, none⟩)) ?_
    (try simp only [Act.put, gA, gS, gZ, sA, sZ, sS])
    refine wv (.bool gr) ?_ (hrun := by have q : w20.cell? ⟨b1, 3, none⟩ = some (.bool gr) := (by rw [HGR.out]; exact K20.out.cell (i := 0) rfl (by rfl)); go_simp)
    (try simp only [Act.put, gA, gS, gZ, sA, sZ, sS])
    refine wpList_nil ?_
    cases gr with
    | false =>
      go_upto_region 4 with fail
      refine wp_region_lit ?_
      refine wv (.pointer (some ⟨b1, 4, none⟩)) ?_
      (try simp only [Act.put, gA, gS, gZ, sA, sZ, sS])
      refine wv (.int .u8 (y.vi : Nat)) ?_ (hrun := by have q : w20.cell? ⟨b1, 4, none⟩ = some (.int .u8 (y.vi : Nat)) := K20.out.cell (i := 0) rfl (by rfl); go_simp)
      (try simp only [Act.put, gA, gS, gZ, sA, sZ, sS])
      refine wv (.int .u8 (r2 : Nat)) ?_ (hrun := by have q0 := Hr2.out.1; have q2 := Hr2.out.2; have q1 := HYI.out; go_simp; first | exact wrS (by omega) (by omega) | exact wrU (by simp) (by omega) (by omega) | exact tmN q0 | omega)
      (try simp only [Act.put, gA, gS, gZ, sA, sZ, sS])
      refine wv (.bool (decide (0 < r2))) ?_ (hrun := by have q2 := Hr2.out.2; go_simp)
      (try simp only [Act.put, gA, gS, gZ, sA, sZ, sS])
      refine wpList_nil ?_
      obtain ⟨bb, hbb⟩ : ∃ b, b = decide (0 < r2) := ⟨_, rfl⟩
      have HBB := Lib.hid hbb
      rw [← hbb]
      clear hbb
      cases bb with
      | false =>
        go_upto_region 6 with fail
        refine wp_region_lit ?_
        refine wv (.agg (fA (⟨(byteF r1), (byteF r0), false, 0, false, 0, 2048, zeroB n⟩ : Fr))) ?_ (hrun := kb_all K20.out 2 rfl 42 _ rfl rfl Tryd.underlying42 rfl (fA_size _))
        (try simp only [Act.put, gA, gS, gZ, sA, sZ, sS])
        refine kb_row K20.out 1 rfl 42 _ _ (fA (⟨(byteF r1), (byteF r0), false, 0, false, 0, 2048, zeroB n⟩ : Fr)) rfl rfl rfl rfl (fA_size _) (by rfl) (fA_one _) ?_
        intro w21 hk
        have K21 := Lib.hid (show Kb w [(b1, fgA y, 45), (b2, fA (⟨(byteF r1), (byteF r0), false, 0, false, 0, 2048, zeroB n⟩ : Fr), 42), (c2, fA (⟨(byteF r1), (byteF r0), false, 0, false, 0, 2048, zeroB n⟩ : Fr), 42)] w21 from hk)
        clear hk
        (try simp only [Act.put, gA, gS, gZ, sA, sZ, sS])
        refine wpList_nil ?_
        go_wp2_with fail
        refine bodyPost_ret (v := .agg (fA (⟨(byteF r1), (byteF r0), false, 0, false, 0, 2048, zeroB n⟩ : Fr))) (results_cell_row Tryd.results7 _ _ b2 42 _ (0, 0) _ rfl (K21.out.at (i := 1) rfl) Tryd.underlying42 rfl (fA_size _)) rfl ?_
        refine ⟨?_, K21.out.below⟩
        rw [HOF.out, ← HBB.out, ← HGR.out, show r2 - 1 = 0 by have := of_decide_eq_false HBB.out.symm; omega]; rfl
      | true =>
        go_upto_region 5 with fail
        have hr2 : 1 ≤ r2 := of_decide_eq_true HBB.out.symm
        obtain ⟨r3, hr3⟩ : ∃ r3 : Nat, r2 = r3 + 1 := ⟨r2 - 1, by omega⟩
        subst hr3
        refine rk (fun (_ : Unit) => [.pointer (some ⟨b1, 4, none⟩), .int .u8 (y.vi : Nat), .int .u8 ((r3 + 1 : Nat) : Int), .int .u16 ((r3 + 1 : Nat) : Int), .int .u16 (r3 : Nat), .pointer (some ⟨c2, 12, none⟩), undef, .pointer (some ⟨c2, 15, none⟩), undef]) (fun _ Lx w' => Kb w [(b1, fgA y, 45), (b2, nil18, 42), (c2, fA (⟨(byteF r1), (byteF r0), (bif Lx 6 then true else false), 0, false, (bif Lx 8 then r3 else 0), 2048, zeroB n⟩ : Fr), 42)] w') (()) [] [(1, fun _ => ⟨b1, 4, none⟩)] [(2, fun _ => [(32, .int .u8 (y.vi : Nat))]), (3, fun _ => [(33, .int .u8 ((r3 + 1 : Nat) : Int))]), (4, fun _ => [(34, .int .u16 ((r3 + 1 : Nat) : Int))]), (6, fun _ => [(36, .pointer (some ⟨c2, 12, none⟩))]), (8, fun _ => [(37, .pointer (some ⟨c2, 15, none⟩)), (35, .int .u16 (r3 : Nat))])] [6, 8] ?_ ?_ ?_ ?_ ?_
        · exact K20.out.drew
        · intro s L w' hw; exact ⟨fun _ => Kb.cell (i := 0) hw rfl (by rfl), trivial⟩
        · intro s L1 L2 w' e h; (try dsimp only at h ⊢); rw [← e 6 (by simp), ← e 8 (by simp)]; exact h
        · refine ⟨?_, ?_, ?_, ?_, ?_, trivial⟩ <;> (rintro s Lx w' hw hL haft hdc ρ hc hf hG hs o ho; cases ho; try dsimp only [seen] at hw hs)
          · obtain ⟨e32, -⟩ := hs
            exact sq (.int .u8 ((r3 + 1 : Nat) : Int)) (by have q0 := Hr2.out.1; have q2 := Hr2.out.2; have q1 := HYI.out; go_simp; first | exact wrS (by omega) (by omega) | exact wrU (by simp) (by omega) (by omega) | exact tmN q0 | omega)
          · obtain ⟨e33, -⟩ := hs
            exact sq (.int .u16 ((r3 + 1 : Nat) : Int)) (by have q0 := Hr2.out.1; have q2 := Hr2.out.2; have q1 := HYI.out; go_simp; first | exact wrS (by omega) (by omega) | exact wrU (by simp) (by omega) (by omega) | exact tmN q0 | omega)
          · obtain ⟨e34, -⟩ := hs
            exact sq (.int .u16 (r3 : Nat)) (by have q2 := Hr2.out.2; go_simp; first | exact wrU (by simp) (by omega) (by omega) | omega)
          · obtain ⟨e36, -⟩ := hs
            exact ss 4 _ _ rfl ⟨c2, 12, none⟩ (.bool true) e36 (hc _) (kb_run_set hw (i := 2) rfl 4 12 (.bool (bif Lx 6 then true else false)) (.bool true) (by rfl) (fun W h1 h2 => by go_simp)) ⟨(), fun _ _ => rfl, rfl, cast_blk (Kb.set (i := 2) hw rfl 12 (.bool true)) (by rfl)⟩
          · obtain ⟨e37, e35, -⟩ := hs
            exact ss 23 _ _ rfl ⟨c2, 15, none⟩ (.int .u16 (r3 : Nat)) e37 e35 (kb_run_set hw (i := 2) rfl 23 15 (.int .u16 ((bif Lx 8 then r3 else 0 : Nat) : Int)) (.int .u16 (r3 : Nat)) (by rfl) (fun W h1 h2 => by go_simp)) ⟨(), fun _ _ => rfl, rfl, cast_blk (Kb.set (i := 2) hw rfl 15 (.int .u16 (r3 : Nat))) (by rfl)⟩
        · rintro _ Lx w60 hw hall
          try dsimp only at hw
          rw [hall 6 (by decide), hall 8 (by decide)] at hw
          clear hall
          simp only [List.toList_toArray, putsZ_some, putsZ_none, putsZ_nil, List.setIfInBounds_toArray, List.set_cons_zero, List.set_cons_succ]
          have K60 := Lib.hid (show Kb w [(b1, fgA y, 45), (b2, nil18, 42), (c2, fA (⟨(byteF r1), (byteF r0), true, 0, false, r3, 2048, zeroB n⟩ : Fr), 42)] w60 from hw)
          clear hw
          go_upto_region 6 with fail
          refine wp_region_lit ?_
          refine wv (.agg (fA (⟨(byteF r1), (byteF r0), true, 0, false, r3, 2048, zeroB n⟩ : Fr))) ?_ (hrun := kb_all K60.out 2 rfl 42 _ rfl rfl Tryd.underlying42 rfl (fA_size _))
          (try simp only [Act.put, gA, gS, gZ, sA, sZ, sS])
          refine kb_row K60.out 1 rfl 42 _ _ (fA (⟨(byteF r1), (byteF r0), true, 0, false, r3, 2048, zeroB n⟩ : Fr)) rfl rfl rfl rfl (fA_size _) (by rfl) (fA_one _) ?_
          intro w61 hk
          have K61 := Lib.hid (show Kb w [(b1, fgA y, 45), (b2, fA (⟨(byteF r1), (byteF r0), true, 0, false, r3, 2048, zeroB n⟩ : Fr), 42), (c2, fA (⟨(byteF r1), (byteF r0), true, 0, false, r3, 2048, zeroB n⟩ : Fr), 42)] w61 from hk)
          clear hk
          (try simp only [Act.put, gA, gS, gZ, sA, sZ, sS])
          refine wpList_nil ?_
          go_wp2_with fail
          refine bodyPost_ret (v := .agg (fA (⟨(byteF r1), (byteF r0), true, 0, false, r3, 2048, zeroB n⟩ : Fr))) (results_cell_row Tryd.results7 _ _ b2 42 _ (0, 0) _ rfl (K61.out.at (i := 1) rfl) Tryd.underlying42 rfl (fA_size _)) rfl ?_
          refine ⟨?_, K61.out.below⟩
          rw [HOF.out, ← HBB.out, ← HGR.out, show r3 + 1 - 1 = r3 by omega]; rfl
    | true =>
      go_upto_region 3 with fail
      refine wp_region_lit ?_
      refine wv (.pointer (some ⟨b1, 2, none⟩)) ?_
      (try simp only [Act.put, gA, gS, gZ, sA, sZ, sS])
      refine wv (.int .u8 (y.ds : Nat)) ?_ (hrun := by have q : w20.cell? ⟨b1, 2, none⟩ = some (.int .u8 (y.ds : Nat)) := K20.out.cell (i := 0) rfl (by rfl); go_simp)
      (try simp only [Act.put, gA, gS, gZ, sA, sZ, sS])
      refine wv (.agg (macA (byteF (grN y.ds)))) ?_ (hrun := run_build_of 40 [(0, .const (.int .u8 1)), (1, .const (.int .u8 128)), (2, .const (.int .u8 194)), (3, .const (.int .u8 0)), (4, .const (.int .u8 0)), (5, .tmp 24)] rfl _ (macA (byteF (grN y.ds))) rfl (built_gr y.ds (by have := HYI.out; omega)))
      (try simp only [Act.put, gA, gS, gZ, sA, sZ, sS])
      refine wv (.pointer (some ⟨c2, 0, none⟩)) ?_
      (try simp only [Act.put, gA, gS, gZ, sA, sZ, sS])
      refine kb_mid K20.out 2 rfl 40 _ _ 0 (macA (byteF (grN y.ds))) rfl rfl rfl rfl mcSize (Nat.le_of_ble_eq_true (by kernel_rfl)) (by kernel_rfl) (fA (⟨(byteF (grN y.ds)), (byteF r0), false, 0, false, 0, 2048, zeroB n⟩ : Fr)) (by kernel_rfl) ?_
      intro w21 hk
      have K21 := Lib.hid (show Kb w [(b1, fgA y, 45), (b2, nil18, 42), (c2, fA (⟨(byteF (grN y.ds)), (byteF r0), false, 0, false, 0, 2048, zeroB n⟩ : Fr), 42)] w21 from hk)
      clear hk
      (try simp only [Act.put, gA, gS, gZ, sA, sZ, sS])
      refine wpList_nil ?_
      go_upto_region 4 with fail
      refine wp_region_lit ?_
      refine wv (.pointer (some ⟨b1, 4, none⟩)) ?_
      (try simp only [Act.put, gA, gS, gZ, sA, sZ, sS])
      refine wv (.int .u8 (y.vi : Nat)) ?_ (hrun := by have q : w21.cell? ⟨b1, 4, none⟩ = some (.int .u8 (y.vi : Nat)) := K21.out.cell (i := 0) rfl (by rfl); go_simp)
      (try simp only [Act.put, gA, gS, gZ, sA, sZ, sS])
      refine wv (.int .u8 (r2 : Nat)) ?_ (hrun := by have q0 := Hr2.out.1; have q2 := Hr2.out.2; have q1 := HYI.out; go_simp; first | exact wrS (by omega) (by omega) | exact wrU (by simp) (by omega) (by omega) | exact tmN q0 | omega)
      (try simp only [Act.put, gA, gS, gZ, sA, sZ, sS])
      refine wv (.bool (decide (0 < r2))) ?_ (hrun := by have q2 := Hr2.out.2; go_simp)
      (try simp only [Act.put, gA, gS, gZ, sA, sZ, sS])
      refine wpList_nil ?_
      obtain ⟨bb, hbb⟩ : ∃ b, b = decide (0 < r2) := ⟨_, rfl⟩
      have HBB := Lib.hid hbb
      rw [← hbb]
      clear hbb
      cases bb with
      | false =>
        go_upto_region 6 with fail
        refine wp_region_lit ?_
        refine wv (.agg (fA (⟨(byteF (grN y.ds)), (byteF r0), false, 0, false, 0, 2048, zeroB n⟩ : Fr))) ?_ (hrun := kb_all K21.out 2 rfl 42 _ rfl rfl Tryd.underlying42 rfl (fA_size _))
        (try simp only [Act.put, gA, gS, gZ, sA, sZ, sS])
        refine kb_row K21.out 1 rfl 42 _ _ (fA (⟨(byteF (grN y.ds)), (byteF r0), false, 0, false, 0, 2048, zeroB n⟩ : Fr)) rfl rfl rfl rfl (fA_size _) (by rfl) (fA_one _) ?_
        intro w22 hk
        have K22 := Lib.hid (show Kb w [(b1, fgA y, 45), (b2, fA (⟨(byteF (grN y.ds)), (byteF r0), false, 0, false, 0, 2048, zeroB n⟩ : Fr), 42), (c2, fA (⟨(byteF (grN y.ds)), (byteF r0), false, 0, false, 0, 2048, zeroB n⟩ : Fr), 42)] w22 from hk)
        clear hk
        (try simp only [Act.put, gA, gS, gZ, sA, sZ, sS])
        refine wpList_nil ?_
        go_wp2_with fail
        refine bodyPost_ret (v := .agg (fA (⟨(byteF (grN y.ds)), (byteF r0), false, 0, false, 0, 2048, zeroB n⟩ : Fr))) (results_cell_row Tryd.results7 _ _ b2 42 _ (0, 0) _ rfl (K22.out.at (i := 1) rfl) Tryd.underlying42 rfl (fA_size _)) rfl ?_
        refine ⟨?_, K22.out.below⟩
        rw [HOF.out, ← HBB.out, ← HGR.out, show r2 - 1 = 0 by have := of_decide_eq_false HBB.out.symm; omega]; rfl
      | true =>
        go_upto_region 5 with fail
        have hr2 : 1 ≤ r2 := of_decide_eq_true HBB.out.symm
        obtain ⟨r3, hr3⟩ : ∃ r3 : Nat, r2 = r3 + 1 := ⟨r2 - 1, by omega⟩
        subst hr3
        refine rk (fun (_ : Unit) => [.pointer (some ⟨b1, 4, none⟩), .int .u8 (y.vi : Nat), .int .u8 ((r3 + 1 : Nat) : Int), .int .u16 ((r3 + 1 : Nat) : Int), .int .u16 (r3 : Nat), .pointer (some ⟨c2, 12, none⟩), undef, .pointer (some ⟨c2, 15, none⟩), undef]) (fun _ Lx w' => Kb w [(b1, fgA y, 45), (b2, nil18, 42), (c2, fA (⟨(byteF (grN y.ds)), (byteF r0), (bif Lx 6 then true else false), 0, false, (bif Lx 8 then r3 else 0), 2048, zeroB n⟩ : Fr), 42)] w') (()) [] [(1, fun _ => ⟨b1, 4, none⟩)] [(2, fun _ => [(32, .int .u8 (y.vi : Nat))]), (3, fun _ => [(33, .int .u8 ((r3 + 1 : Nat) : Int))]), (4, fun _ => [(34, .int .u16 ((r3 + 1 : Nat) : Int))]), (6, fun _ => [(36, .pointer (some ⟨c2, 12, none⟩))]), (8, fun _ => [(37, .pointer (some ⟨c2, 15, none⟩)), (35, .int .u16 (r3 : Nat))])] [6, 8] ?_ ?_ ?_ ?_ ?_
        · exact K21.out.drew
        · intro s L w' hw; exact ⟨fun _ => Kb.cell (i := 0) hw rfl (by rfl), trivial⟩
        · intro s L1 L2 w' e h; (try dsimp only at h ⊢); rw [← e 6 (by simp), ← e 8 (by simp)]; exact h
        · refine ⟨?_, ?_, ?_, ?_, ?_, trivial⟩ <;> (rintro s Lx w' hw hL haft hdc ρ hc hf hG hs o ho; cases ho; try dsimp only [seen] at hw hs)
          · obtain ⟨e32, -⟩ := hs
            exact sq (.int .u8 ((r3 + 1 : Nat) : Int)) (by have q0 := Hr2.out.1; have q2 := Hr2.out.2; have q1 := HYI.out; go_simp; first | exact wrS (by omega) (by omega) | exact wrU (by simp) (by omega) (by omega) | exact tmN q0 | omega)
          · obtain ⟨e33, -⟩ := hs
            exact sq (.int .u16 ((r3 + 1 : Nat) : Int)) (by have q0 := Hr2.out.1; have q2 := Hr2.out.2; have q1 := HYI.out; go_simp; first | exact wrS (by omega) (by omega) | exact wrU (by simp) (by omega) (by omega) | exact tmN q0 | omega)
          · obtain ⟨e34, -⟩ := hs
            exact sq (.int .u16 (r3 : Nat)) (by have q2 := Hr2.out.2; go_simp; first | exact wrU (by simp) (by omega) (by omega) | omega)
          · obtain ⟨e36, -⟩ := hs
            exact ss 4 _ _ rfl ⟨c2, 12, none⟩ (.bool true) e36 (hc _) (kb_run_set hw (i := 2) rfl 4 12 (.bool (bif Lx 6 then true else false)) (.bool true) (by rfl) (fun W h1 h2 => by go_simp)) ⟨(), fun _ _ => rfl, rfl, cast_blk (Kb.set (i := 2) hw rfl 12 (.bool true)) (by rfl)⟩
          · obtain ⟨e37, e35, -⟩ := hs
            exact ss 23 _ _ rfl ⟨c2, 15, none⟩ (.int .u16 (r3 : Nat)) e37 e35 (kb_run_set hw (i := 2) rfl 23 15 (.int .u16 ((bif Lx 8 then r3 else 0 : Nat) : Int)) (.int .u16 (r3 : Nat)) (by rfl) (fun W h1 h2 => by go_simp)) ⟨(), fun _ _ => rfl, rfl, cast_blk (Kb.set (i := 2) hw rfl 15 (.int .u16 (r3 : Nat))) (by rfl)⟩
        · rintro _ Lx w60 hw hall
          try dsimp only at hw
          rw [hall 6 (by decide), hall 8 (by decide)] at hw
          clear hall
          simp only [List.toList_toArray, putsZ_some, putsZ_none, putsZ_nil, List.setIfInBounds_toArray, List.set_cons_zero, List.set_cons_succ]
          have K60 := Lib.hid (show Kb w [(b1, fgA y, 45), (b2, nil18, 42), (c2, fA (⟨(byteF (grN y.ds)), (byteF r0), true, 0, false, r3, 2048, zeroB n⟩ : Fr), 42)] w60 from hw)
          clear hw
          go_upto_region 6 with fail
          refine wp_region_lit ?_
          refine wv (.agg (fA (⟨(byteF (grN y.ds)), (byteF r0), true, 0, false, r3, 2048, zeroB n⟩ : Fr))) ?_ (hrun := kb_all K60.out 2 rfl 42 _ rfl rfl Tryd.underlying42 rfl (fA_size _))
          (try simp only [Act.put, gA, gS, gZ, sA, sZ, sS])
          refine kb_row K60.out 1 rfl 42 _ _ (fA (⟨(byteF (grN y.ds)), (byteF r0), true, 0, false, r3, 2048, zeroB n⟩ : Fr)) rfl rfl rfl rfl (fA_size _) (by rfl) (fA_one _) ?_
          intro w61 hk
          have K61 := Lib.hid (show Kb w [(b1, fgA y, 45), (b2, fA (⟨(byteF (grN y.ds)), (byteF r0), true, 0, false, r3, 2048, zeroB n⟩ : Fr), 42), (c2, fA (⟨(byteF (grN y.ds)), (byteF r0), true, 0, false, r3, 2048, zeroB n⟩ : Fr), 42)] w61 from hk)
          clear hk
          (try simp only [Act.put, gA, gS, gZ, sA, sZ, sS])
          refine wpList_nil ?_
          go_wp2_with fail
          refine bodyPost_ret (v := .agg (fA (⟨(byteF (grN y.ds)), (byteF r0), true, 0, false, r3, 2048, zeroB n⟩ : Fr))) (results_cell_row Tryd.results7 _ _ b2 42 _ (0, 0) _ rfl (K61.out.at (i := 1) rfl) Tryd.underlying42 rfl (fA_size _)) rfl ?_
          refine ⟨?_, K61.out.below⟩
          rw [HOF.out, ← HBB.out, ← HGR.out, show r3 + 1 - 1 = r3 by omega]; rfl
end
section
/- The tables and the ports of the laws, as they are made. -/
open Go.RowKit
attribute [local irreducible] wpQuiet wpList

structure Lp where
  off : Bool
  st : Nat
  ac : Nat
  fi : Bool
  pv : Nat
def Lp.ok (y : Lp) : Prop := y.st < 256 ∧ y.ac < 256 ∧ y.pv < 256
def lpA (y : Lp) : Array Value := #[.bool y.off, .int .u8 (y.st : Nat), .int .u8 (y.ac : Nat), .bool y.fi, .int .u8 (y.pv : Nat)]
def lpC (y : Lp) : List Value := (lpA y).toList
theorem lpSize : (Tryd.prog.info? 86).map (·.size) = some 5 := by kernel_rfl
theorem lp_all (y : Lp) : (lpA y).all (·.oneCell') = true := by simp [lpA, Value.oneCell']
theorem zLp : ∀ W : World, (zeroValue 86).run Tryd.prog W = .ok (.agg #[.bool false, .int .u8 0, .int .u8 0, .bool false, .int .u8 0]) W := fun W => Tryd.zeroValue86 W
structure Py where
  v : Nat → Nat
  room : Nat
def Py.ok (x : Py) : Prop := (∀ k, x.v k < 65536) ∧ x.room < 256
def plA (x : Py) (sp ss sf : Value) : Array Value := #[sp, .int .u16 (x.v 0 : Nat), .int .u16 (x.v 1 : Nat), .int .u16 (x.v 2 : Nat), .int .u16 (x.v 3 : Nat), .int .u16 (x.v 4 : Nat), .int .u16 (x.v 5 : Nat), ss, .int .u8 (x.room : Nat), sf]
theorem plSize : (Tryd.prog.info? 29).map (·.size) = some 10 := by kernel_rfl
theorem pl_v (x : Py) (sp ss sf : Value) {k : Nat} (hk : k < 3) : (plA x sp ss sf)[1 + k * 2]? = some (.int .u16 (x.v (2 * k) : Nat)) ∧ (plA x sp ss sf)[1 + k * 2 + 1]? = some (.int .u16 (x.v (2 * k + 1) : Nat)) := by
  match k, hk with
  | 0, _ => exact ⟨rfl, rfl⟩
  | 1, _ => exact ⟨rfl, rfl⟩
  | 2, _ => exact ⟨rfl, rfl⟩
def stC (p : Nat × Nat) : List Value := [.int .u16 (p.1 : Nat), .int .u16 (p.2 : Nat)]
/-- What is laid. -/
def vlM (x : Py) (k : Nat) : Vl := ⟨1 + k, x.v (2 * k), x.v (2 * k) &&& x.v (2 * k + 1)⟩
def madeV (x : Py) : Nat → List Vl | 0 => [] | k + 1 => setV (madeV x k) (vlM x k)
def seM (p : Nat × Nat) : Se := ⟨1, p.1 % 8, p.2⟩
def madeT (l : List (Nat × Nat)) : List Se := l.foldl (fun t p => setS t (seM p)) []
def madeP (y : Lp) : Po := ⟨((1 + y.pv % 4 : Nat) : Int), ((y.ac % 3 : Nat) : Int), y.fi, 0, 0, false, true, !y.off, false, false, 0, ((y.st % 3 : Nat) : Int), 0, 0, 0, 0, 0, 0, 0, 0, 0⟩
theorem madeP_ok (y : Lp) : PoOk (madeP y) := ⟨⟨_, rfl⟩, by show ((y.st % 3 : Nat) : Int) = 0 ∨ ((y.st % 3 : Nat) : Int) = 1 ∨ ((y.st % 3 : Nat) : Int) = 2; omega⟩
theorem setS_len (l : List Se) (x : Se) : (setS l x).length ≤ l.length + 1 := by
  unfold setS
  split
  · omega
  · split
    · simp
    · split
      · omega
      · exact Nat.le_of_eq (layK_len _ _ _)
theorem madeT_take (l : List (Nat × Nat)) (k : Nat) (p : Nat × Nat) (h : l[k]? = some p) : madeT (l.take (k + 1)) = setS (madeT (l.take k)) (seM p) := by
  unfold madeT
  rw [List.take_add_one, h, List.foldl_append]
  rfl
theorem madeT_len (l : List (Nat × Nat)) : (madeT l).length ≤ l.length := by
  unfold madeT
  have : ∀ (l : List (Nat × Nat)) (t : List Se), (l.foldl (fun t p => setS t (seM p)) t).length ≤ t.length + l.length := by
    intro l
    induction l with
    | nil => intro t; simp
    | cons p l ih => intro t; have := ih (setS t (seM p)); have := setS_len t (seM p); simp only [List.foldl_cons, List.length_cons]; omega
  have := this l []
  simpa using this
theorem rows_range {w : World} {a : Option Addr} {α : Type} {size : Nat} {enc : α → List Value} {l : List α} {k : Nat} {x : α} (h : RowsAt w a size enc l) (hx : l[k]? = some x) : ∃ g off, a = some ⟨g, off, none⟩ ∧ ∀ W, Below w.heap.size w W → W.rangeAt g (off + k * size) (enc x) := by
  rcases h with rfl | ⟨g, off, rfl, hlt, hr⟩
  · cases hx
  · refine ⟨g, off, rfl, fun W hW j u hu => ?_⟩
    have q := hr k x hx j u hu
    rw [show off + (k * size + j) = off + k * size + j by omega] at q
    unfold World.cell? at q ⊢
    rw [hW.block g hlt]
    exact q
/-- While the tables are made. -/
structure MkT (w : World) (l : List (Nat × Array Value × TypeId)) (S : Nat) (mo : Int) (i : Ix) (c : Nat) (L0 L1 L7 L9 L10 : Bool) (W : World) : Prop where
  kb : Kb w l W
  sz : S ≤ W.heap.size
  t0 : L0 = true → TM W i.b1 i.a1 i.z1 [] ∧ S ≤ i.a1 ∧ i.a1 ≤ i.z1 ∧ i.z1 ≤ W.heap.size
  t1 : L1 = true → TS W i.b2 i.a2 i.z2 [] ∧ i.z1 ≤ i.a2 ∧ i.a2 ≤ i.z2 ∧ i.z2 ≤ W.heap.size
  t7 : L7 = true → TF W i.b3 i.a3 i.z3 mo 20 [] ∧ i.z2 ≤ i.a3 ∧ i.a3 ≤ i.z3 ∧ i.z3 ≤ W.heap.size
  c9 : L9 = true → Blk W c (bif L10 then t3A i else #[.pointer none, .pointer none, .pointer none]) 35 ∧ S ≤ c ∧ w.heap.size ≤ c
  d0 : L0 = true → L9 = true → ¬ (i.a1 ≤ c ∧ c < i.z1)
  d1 : L1 = true → L9 = true → ¬ (i.a2 ≤ c ∧ c < i.z2)
  d7 : L7 = true → L9 = true → ¬ (i.a3 ≤ c ∧ c < i.z3)
section
variable {w W W' : World} {l : List (Nat × Array Value × TypeId)} {S c : Nat} {mo : Int} {i : Ix} {L0 L1 L7 L9 L10 : Bool}
theorem MkT.next (h : MkT w l S mo i c L0 L1 L7 L9 L10 W) (hb : Below W.heap.size W W') : MkT w l S mo i c L0 L1 L7 L9 L10 W' := by
  have hs := hb.size
  refine ⟨h.kb.next hb, Nat.le_trans h.sz hs, fun q => ?_, fun q => ?_, fun q => ?_, fun q => ⟨(h.c9 q).1.below hb (h.c9 q).1.lt, (h.c9 q).2⟩, h.d0, h.d1, h.d7⟩
  · obtain ⟨q1, q2, q3, q4⟩ := h.t0 q
    exact ⟨q1.keep (fun k _ hk => hb.block k (by omega)), q2, q3, by omega⟩
  · obtain ⟨q1, q2, q3, q4⟩ := h.t1 q
    exact ⟨q1.keep (fun k _ hk => hb.block k (by omega)), q2, q3, by omega⟩
  · obtain ⟨q1, q2, q3, q4⟩ := h.t7 q
    exact ⟨q1.keep (fun k _ hk => hb.block k (by omega)), q2, q3, by omega⟩
theorem MkT.make0 (h : MkT w l S mo i c false false false L9 false W) {b : Nat} (ht : TM W' b W.heap.size W'.heap.size []) (hb : Below W.heap.size W W') : MkT w l S mo { i with b1 := b, a1 := W.heap.size, z1 := W'.heap.size } c true false false L9 false W' := by
  have q := h.next hb
  exact ⟨q.kb, q.sz, fun _ => ⟨ht, h.sz, hb.size, Nat.le_refl _⟩, fun e => (by cases e), fun e => (by cases e), q.c9, fun _ e => by have := (h.c9 e).1.lt; show ¬ (W.heap.size ≤ c ∧ _); omega, fun e => (by cases e), fun e => (by cases e)⟩
theorem MkT.make1 (h : MkT w l S mo i c true false false L9 false W) {b : Nat} (ht : TS W' b W.heap.size W'.heap.size []) (hb : Below W.heap.size W W') : MkT w l S mo { i with b2 := b, a2 := W.heap.size, z2 := W'.heap.size } c true true false L9 false W' := by
  have q := h.next hb
  exact ⟨q.kb, q.sz, q.t0, fun _ => ⟨ht, (h.t0 rfl).2.2.2, hb.size, Nat.le_refl _⟩, fun e => (by cases e), q.c9, q.d0, fun _ e => by have := (h.c9 e).1.lt; show ¬ (W.heap.size ≤ c ∧ _); omega, fun e => (by cases e)⟩
theorem MkT.make7 (h : MkT w l S mo i c true true false L9 false W) {b : Nat} (ht : TF W' b W.heap.size W'.heap.size mo 20 []) (hb : Below W.heap.size W W') : MkT w l S mo { i with b3 := b, a3 := W.heap.size, z3 := W'.heap.size } c true true true L9 false W' := by
  have q := h.next hb
  exact ⟨q.kb, q.sz, q.t0, q.t1, fun _ => ⟨ht, (h.t1 rfl).2.2.2, hb.size, Nat.le_refl _⟩, q.c9, q.d0, q.d1, fun _ e => by have := (h.c9 e).1.lt; show ¬ (W.heap.size ≤ c ∧ _); omega⟩
theorem MkT.make9 (h : MkT w l S mo i c L0 L1 L7 false false W) : MkT w l S mo i W.heap.size L0 L1 L7 true false (W.alloc (.cells #[.pointer none, .pointer none, .pointer none] 35)) := by
  have q := h.next ((Below.refl _ _).alloc (Nat.le_refl _) (.cells #[.pointer none, .pointer none, .pointer none] 35))
  exact ⟨q.kb, q.sz, q.t0, q.t1, q.t7, fun _ => ⟨Blk.new _ _ _, h.sz, h.kb.below.size⟩, fun e _ => by have := (h.t0 e).2.2.2; omega, fun e _ => by have := (h.t1 e).2.2.2; omega, fun e _ => by have := (h.t7 e).2.2.2; omega⟩
theorem MkT.make10 (h : MkT w l S mo i c true true true true false W) (hl : ∀ x ∈ l, x.1 < S) : MkT w l S mo i c true true true true true (W.setRow c (t3A i)) := by
  obtain ⟨c1, c2, c3⟩ := h.c9 rfl
  have hz : (W.setRow c (t3A i)).heap.size = W.heap.size := by simp [World.setRow]
  refine ⟨h.kb.rowOther (fun x hx => by have := hl x hx; omega) c3 _, by rw [hz]; exact h.sz, fun _ => ?_, fun _ => ?_, fun _ => ?_, fun _ => ⟨c1.row _, c2, c3⟩, h.d0, h.d1, h.d7⟩
  · obtain ⟨q1, q2, q3, q4⟩ := h.t0 rfl
    exact ⟨q1.keep (fun k k1 k2 => setRow_other _ _ _ _ (fun e => h.d0 rfl rfl ⟨e ▸ k1, e ▸ k2⟩)), q2, q3, by rw [hz]; exact q4⟩
  · obtain ⟨q1, q2, q3, q4⟩ := h.t1 rfl
    exact ⟨q1.keep (fun k k1 k2 => setRow_other _ _ _ _ (fun e => h.d1 rfl rfl ⟨e ▸ k1, e ▸ k2⟩)), q2, q3, by rw [hz]; exact q4⟩
  · obtain ⟨q1, q2, q3, q4⟩ := h.t7 rfl
    exact ⟨q1.keep (fun k k1 k2 => setRow_other _ _ _ _ (fun e => h.d7 rfl rfl ⟨e ▸ k1, e ▸ k2⟩)), q2, q3, by rw [hz]; exact q4⟩
theorem MkT.kx (h : MkT w l S mo i c true true true true true W) (hl : ∀ x ∈ l, x.1 < S) (hS : w.heap.size ≤ S) (hm : i.mo = mo) (hi : i.li = 20) : Kx w (l ++ [(c, t3A i, 35)]) (bdT w i [] [] []) W := by
  obtain ⟨p1, p2, p3, p4⟩ := h.t0 rfl
  obtain ⟨q1, q2, q3, q4⟩ := h.t1 rfl
  obtain ⟨r1, r2, r3, r4⟩ := h.t7 rfl
  obtain ⟨c1, c2, c3⟩ := h.c9 rfl
  refine ⟨kb_add h.kb c1 (fun x hx => by have := hl x hx; omega) c3, ⟨p1, q1, by rw [hm, hi]; exact r1, ⟨by omega, p3, q2, q3, r2, r3, r4⟩, (fun y hy => by cases hy), (fun y hy => by cases hy)⟩, fun x hx q => ?_, fun k q => ?_⟩
  · rcases List.mem_append.1 hx with hx | hx
    · have := hl x hx
      have q' : (i.a1 ≤ x.1 ∧ x.1 < i.z1) ∨ (i.a2 ≤ x.1 ∧ x.1 < i.z2) ∨ (i.a3 ≤ x.1 ∧ x.1 < i.z3) := q
      omega
    · rw [List.mem_singleton.1 hx] at q
      rcases q with q | q | q
      · exact h.d0 rfl rfl q
      · exact h.d1 rfl rfl q
      · exact h.d7 rfl rfl q
  · have q' : (i.a1 ≤ k ∧ k < i.z1) ∨ (i.a2 ≤ k ∧ k < i.z2) ∨ (i.a3 ≤ k ∧ k < i.z3) := q
    omega
end
end
end Go.Proofs.YtelohoomlgjjmaaDoor
