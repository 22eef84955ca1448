/- speaks answers true. -/
import Derived.Test.YtpbdamnlfpfclaaExS
namespace Go.Proofs.Ytpbdamnlfpfclaa
open Go.RowKit
set_option linter.unusedSimpArgs false
set_option linter.unusedVariables false

theorem wpList_made {P : Program} {ops : Array Oper} {Q : Exit → Act → World → Prop} {a : Act} {w w' : World} {rest : List Oper} {o : Oper} (v : Value) (hw : Region.wanted o (yielded ops a.tmps) = true)
    (hrun : (execOp a.eval o).run P w = .ok (.value v) w') (h : wpList P ops Q rest (a.put o.dst v) w') : wpList P ops Q (o :: rest) a w :=
  BigFrame.wpList_want hw fun K hK => by unfold Oper.wp; simp only [hrun]; exact hK _ _ h
/-- The port, the state. -/
def pt8 : Po := ⟨0, 0, false, 0, 8, false, true, true, false, false, 0, 0, 0, 0, 0, 0, 0, 0, 0, 0, 0⟩
def st8 : St := ⟨⟨0, 0, 0, 0, 0, 0⟩, [pt8], [], [], [], fun _ => 0, 0⟩
theorem built_pt8 : Try.prog.built 50 [(2, .int .i64 8), (5, .bool true), (4, .bool true)] = some (poA pt8) := by kernel_rfl
theorem built_st8 (a : Option Addr) (n m : Nat) : Try.prog.built 41 [(1, .slice a n m)] = some (stA st8 (.slice a n m) (.slice none 0 0) (.slice none 0 0) (.slice none 0 0)) := by kernel_rfl
/-- The slots, while the region runs. -/
structure SkS (b1 b2 : Nat) (ar : Array Value) (f3 f4 f5 f6 : Value) (L : Nat → Bool) (v7 v8 v9 v10 v11 v12 v13 v14 v15 v16 v17 v18 v19 v20 v21 v22 v23 v24 v25 v26 v27 v28 v29 v30 v31 v32 v33 v34 v0 : Value) : Prop where
  e7 : L 0 = true → v7 = poV pt8
  e8 : L 1 = true → v8 = .int .u16 32771
  e9 : L 2 = true → v9 = .bool true
  e10 : L 3 = true → v10 = .bool true
  e11 : L 4 = true → v11 = poV pt8
  e12 : L 5 = true → v12 = .bool true
  e13 : L 6 = true → v13 = .bool true
  e14 : L 7 = true → v14 = .bool true
  e15 : L 8 = true → v15 = .agg ar
  e18 : L 11 = true → v18 = .int .i64 1
  e19 : L 12 = true → v19 = .bool true
  e20 : L 13 = true → v20 = .bool true
  e21 : L 14 = true → v21 = .bool true
  e22 : L 15 = true → v22 = .agg ar
  e27 : L 20 = true → v27 = .bool true
  e28 : L 21 = true → v28 = .bool true
  e29 : L 22 = true → v29 = .bool true
  e30 : L 23 = true → v30 = .agg ar
  e31 : L 24 = true → v31 = .agg ar
  e33 : L 26 = true → v33 = .bool true
  e34 : L 27 = true → v34 = .bool true
  e0 : L 28 = true → v0 = .bool true
/-- The world. -/
structure SkW (b1 b2 : Nat) (ar : Array Value) (wb : World) (L : Nat → Bool) (v16 v17 v23 v24 v25 v26 v32 : Value) (w : World) : Prop where
  below : Below wb.heap.size wb w
  p16 : L 9 = true → IsSt w (coldS st8) v16
  p17 : L 10 = true → IsOne w v17
  p23 : L 16 = true → IsSt w (coldS st8) v23
  p24 : L 17 = true → IsPo w (coldP pt8) v24
  p25 : L 18 = true → IsEl w (coldP pt8) 0 v25
  p26 : L 19 = true → IsEl w (coldP pt8) 7 v26
  p32 : L 25 = true → IsSt w st8 v32
theorem SkW.next (b1 b2 : Nat) (ar : Array Value) (wb : World) (L : Nat → Bool) (v16 v17 v23 v24 v25 v26 v32 : Value) (w w' : World) (h : SkW b1 b2 ar wb L v16 v17 v23 v24 v25 v26 v32 w) (hb : Below w.heap.size w w') : SkW b1 b2 ar wb L v16 v17 v23 v24 v25 v26 v32 w' :=
  ⟨h.below.trans (hb.mono h.below.size), fun q => (h.p16 q).next hb, fun q => (h.p17 q).next hb, fun q => (h.p23 q).next hb, fun q => (h.p24 q).next hb, fun q => (h.p25 q).next hb, fun q => (h.p26 q).next hb, fun q => (h.p32 q).next hb⟩
abbrev SkF (b1 b2 : Nat) (ar : Array Value) (f3 f4 f5 f6 : Value) (v7 v8 v9 v10 v11 v12 v13 v14 v15 v16 v17 v18 v19 v20 v21 v22 v23 v24 v25 v26 v27 v28 v29 v30 v31 v32 v33 v34 v0 : Value) : Act := { tmps := #[v0, .pointer (some ⟨b1, 0, none⟩), .pointer (some ⟨b2, 0, none⟩), f3, f4, f5, f6, v7, v8, v9, v10, v11, v12, v13, v14, v15, v16, v17, v18, v19, v20, v21, v22, v23, v24, v25, v26, v27, v28, v29, v30, v31, v32, v33, v34], defers := [] }
def SkI (b1 b2 : Nat) (ar : Array Value) (f3 f4 f5 f6 : Value) (wb : World) (L : Nat → Bool) (ac : Act) (w : World) : Prop :=
  ∃ v7 v8 v9 v10 v11 v12 v13 v14 v15 v16 v17 v18 v19 v20 v21 v22 v23 v24 v25 v26 v27 v28 v29 v30 v31 v32 v33 v34 v0, ac = SkF b1 b2 ar f3 f4 f5 f6 v7 v8 v9 v10 v11 v12 v13 v14 v15 v16 v17 v18 v19 v20 v21 v22 v23 v24 v25 v26 v27 v28 v29 v30 v31 v32 v33 v34 v0 ∧ SkS b1 b2 ar f3 f4 f5 f6 L v7 v8 v9 v10 v11 v12 v13 v14 v15 v16 v17 v18 v19 v20 v21 v22 v23 v24 v25 v26 v27 v28 v29 v30 v31 v32 v33 v34 v0 ∧ SkW b1 b2 ar wb L v16 v17 v23 v24 v25 v26 v32 w

set_option maxRecDepth 100000 in
set_option maxHeartbeats 16000000 in
theorem speaks_any (w : World) : Calls Try.prog 5 #[] w fun e w' => e = .returned (.bool true) ∧ Below w.heap.size w w' := by
  obtain ⟨b1, hb1⟩ : ∃ b, b = w.heap.size := ⟨_, rfl⟩
  obtain ⟨wa, hwa⟩ : ∃ w', w' = (w.alloc (.cells nil21 50)).setRow b1 (poA pt8) := ⟨_, rfl⟩
  obtain ⟨q0, hq0⟩ : ∃ b, b = wa.heap.size := ⟨_, rfl⟩
  obtain ⟨wc, hwc⟩ : ∃ w', w' = wa.alloc (.cells (poA pt8) 50) := ⟨_, rfl⟩
  obtain ⟨b2, hb2⟩ : ∃ b, b = wc.heap.size := ⟨_, rfl⟩
  obtain ⟨ar, har⟩ : ∃ ar, ar = stA st8 (.slice (some ⟨q0, 0, none⟩) 1 1) (.slice none 0 0) (.slice none 0 0) (.slice none 0 0) := ⟨_, rfl⟩
  obtain ⟨wb, hwb⟩ : ∃ w', w' = (wc.alloc (.cells nil25 41)).setRow b2 ar := ⟨_, rfl⟩
  have d1 : Below w.heap.size w wa := by rw [hwa, hb1]; exact below_setRow ((Below.refl _ _).alloc (Nat.le_refl _) _) (Nat.le_refl _) _
  have d2 : Below wa.heap.size wa wc := by rw [hwc]; exact (Below.refl _ _).alloc (Nat.le_refl _) _
  have d3 : Below wc.heap.size wc wb := by rw [hwb, hb2]; exact below_setRow ((Below.refl _ _).alloc (Nat.le_refl _) _) (Nat.le_refl _) _
  have k1 : Blk wa b1 (poA pt8) 50 := by rw [hwa, hb1]; exact (Blk.new _ _ _).row _
  have B0 := Lib.hid (show Below w.heap.size w wb from (d1.trans (d2.mono d1.size)).trans (d3.mono (Nat.le_trans d1.size d2.size)))
  have KA := Lib.hid k1
  have k1b : Blk wb b1 (poA pt8) 50 := (k1.below d2 k1.lt).below d3 (k1.below d2 k1.lt).lt
  have K1 := Lib.hid (show ∀ W, Below wb.heap.size wb W → Blk W b1 (poA pt8) 50 from fun W hW => k1b.below hW k1b.lt)
  have k2b : Blk wb b2 ar 41 := by rw [hwb, hb2]; exact (Blk.new _ _ _).row _
  have K2 := Lib.hid (show ∀ W, Below wb.heap.size wb W → Blk W b2 ar 41 from fun W hW => k2b.below hW k2b.lt)
  have o1 : Own wc 0 50 21 poC (.slice (some ⟨q0, 0, none⟩) 1 1) [pt8] := by
    rw [hwc, hq0]
    exact Own.lit wa (Nat.zero_le _) po_len [pt8] (by decide)
  have os : OwS wb 0 st8 (.slice (some ⟨q0, 0, none⟩) 1 1) (.slice none 0 0) (.slice none 0 0) (.slice none 0 0) := ⟨o1.next d3, Own.nil _ _ _ _ _, Own.nil _ _ _ _ _, Own.nil _ _ _ _ _, by simp [st8]⟩
  have IS := Lib.hid (show ∀ W, Below wb.heap.size wb W → IsSt W st8 (.agg ar) from fun W hW => ⟨0, _, _, _, _, by rw [har], os.next hW⟩)
  have IR := Lib.hid (show (Try.prog.info? 41).map (·.size) = some ar.size by rw [har]; exact st_info _ _ _ _ _)
  have SR := Lib.hid (show ar.size = 25 by rw [har]; rfl)
  have OR := Lib.hid (show ar.all (·.oneCell') = true by rw [har]; exact st_one os)
  have HA := Lib.hid hwa
  have HC := Lib.hid hwc
  have HB := Lib.hid hwb
  have H1 := Lib.hid hb1
  have H2 := Lib.hid hb2
  have H0 := Lib.hid hq0
  have HR := Lib.hid har
  clear hwa hwc hwb hb1 hb2 hq0 har d1 d2 d3 k1 k1b k2b o1 os
  go_enter Try.func5, Try.ntmps5
  go_upto_region 1 with fail
  refine wp_region_lit ?_
  refine wpList_val (poV pt8) (by rfl) (run_build_of 50 [(2, .const (.int .i64 8)), (5, .const (.bool true)), (4, .const (.bool true))] rfl _ _ rfl built_pt8) ?_
  (try simp only [Act.put, List.getElem_toArray, List.getElem_cons_succ, List.getElem_cons_zero, List.setIfInBounds_toArray, List.set_cons_zero, List.set_cons_succ])
  refine wpList_alloc 50 rfl (by rfl) nil21 z50 ?_
  (try simp only [Act.put, List.getElem_toArray, List.getElem_cons_succ, List.getElem_cons_zero, List.setIfInBounds_toArray, List.set_cons_zero, List.set_cons_succ])
  rw [← H1.out]
  refine wpList_store_row rfl 50 _ _ rfl b1 (poA pt8) rfl rfl 50 nil21 (by rw [H1.out]; exact Blk.new _ _ _) (po_info pt8) (by rfl) (po_all pt8) ?_
  (try simp only [Act.put, List.getElem_toArray, List.getElem_cons_succ, List.getElem_cons_zero, List.setIfInBounds_toArray, List.set_cons_zero, List.set_cons_succ])
  refine wpList_nil ?_
  rw [← HA.out]
  go_upto_region 2 with fail
  refine wp_region_lit ?_
  refine wpList_val (poV pt8) (by rfl) (run_loadVar_of 50 _ rfl b1 rfl 50 (poA pt8) _ KA.out Try.underlying50 rfl (po_info pt8)) ?_
  (try simp only [Act.put, List.getElem_toArray, List.getElem_cons_succ, List.getElem_cons_zero, List.setIfInBounds_toArray, List.set_cons_zero, List.set_cons_succ])
  refine wpList_made (.slice (some ⟨wa.heap.size, 0, none⟩) 1 1) (by rfl) (run_bs1 35 (.tmp 4) rfl (poV pt8) _ rfl (one_po pt8 wa)) ?_
  (try simp only [Act.put, List.getElem_toArray, List.getElem_cons_succ, List.getElem_cons_zero, List.setIfInBounds_toArray, List.set_cons_zero, List.set_cons_succ])
  rw [← H0.out, ← HC.out]
  refine wpList_val (.agg ar) (by rfl) (by rw [HR.out]; exact run_build_of 41 [(1, .tmp 5)] rfl _ _ rfl (built_st8 _ _ _)) ?_
  (try simp only [Act.put, List.getElem_toArray, List.getElem_cons_succ, List.getElem_cons_zero, List.setIfInBounds_toArray, List.set_cons_zero, List.set_cons_succ])
  refine wpList_alloc 41 rfl (by rfl) nil25 z41 ?_
  (try simp only [Act.put, List.getElem_toArray, List.getElem_cons_succ, List.getElem_cons_zero, List.setIfInBounds_toArray, List.set_cons_zero, List.set_cons_succ])
  rw [← H2.out]
  refine wpList_store_row rfl 41 _ _ rfl b2 ar rfl rfl 41 nil25 (by rw [H2.out]; exact Blk.new _ _ _) IR.out (by rw [SR.out]; rfl) OR.out ?_
  (try simp only [Act.put, List.getElem_toArray, List.getElem_cons_succ, List.getElem_cons_zero, List.setIfInBounds_toArray, List.set_cons_zero, List.set_cons_succ])
  refine wpList_nil ?_
  rw [← HB.out]
  go_upto_region 3 with fail
  refine wp_region_inv (I := SkI b1 b2 ar _ _ _ _ wb) (by kernel_rfl) (by kernel_rfl) ⟨_, _, _, _, _, _, _, _, _, _, _, _, _, _, _, _, _, _, _, _, _, _, _, _, _, _, _, _, _, rfl, ⟨(fun h => Bool.noConfusion h), (fun h => Bool.noConfusion h), (fun h => Bool.noConfusion h), (fun h => Bool.noConfusion h), (fun h => Bool.noConfusion h), (fun h => Bool.noConfusion h), (fun h => Bool.noConfusion h), (fun h => Bool.noConfusion h), (fun h => Bool.noConfusion h), (fun h => Bool.noConfusion h), (fun h => Bool.noConfusion h), (fun h => Bool.noConfusion h), (fun h => Bool.noConfusion h), (fun h => Bool.noConfusion h), (fun h => Bool.noConfusion h), (fun h => Bool.noConfusion h), (fun h => Bool.noConfusion h), (fun h => Bool.noConfusion h), (fun h => Bool.noConfusion h), (fun h => Bool.noConfusion h), (fun h => Bool.noConfusion h), (fun h => Bool.noConfusion h)⟩, ⟨(Below.refl _ _).drew, (fun h => Bool.noConfusion h), (fun h => Bool.noConfusion h), (fun h => Bool.noConfusion h), (fun h => Bool.noConfusion h), (fun h => Bool.noConfusion h), (fun h => Bool.noConfusion h), (fun h => Bool.noConfusion h)⟩⟩ ?_ ?_
  · intro o ho Lx ac w' hI hL haft
    obtain ⟨v7, v8, v9, v10, v11, v12, v13, v14, v15, v16, v17, v18, v19, v20, v21, v22, v23, v24, v25, v26, v27, v28, v29, v30, v31, v32, v33, v34, v0, rfl, hs, hw⟩ := hI
    match o, ho with
    | 0, _ =>
      exact i_val rfl (poV pt8) w' (by rfl) (run_loadVar_of 50 _ rfl b1 rfl 50 (poA pt8) _ (K1.out w' hw.below) Try.underlying50 rfl (po_info pt8)) ⟨(poV pt8), v8, v9, v10, v11, v12, v13, v14, v15, v16, v17, v18, v19, v20, v21, v22, v23, v24, v25, v26, v27, v28, v29, v30, v31, v32, v33, v34, v0, rfl, { hs with e7 := fun _ => rfl }, { hw with }⟩
    | 1, _ =>
      have e7x := hs.e7 (haft 0 (by decide))
      subst e7x
      exact i_call rfl (.int .u16 32771) 9 #[poV pt8, .int .i64 3] (fun w2 => Below w'.heap.size w' w2) (by rfl) (by go_simp) (by have h := id_any pt8 3 w'; rwa [show idP pt8 3 = 32771 from rfl] at h) fun w2 hb => ⟨(poV pt8), (.int .u16 32771), v9, v10, v11, v12, v13, v14, v15, v16, v17, v18, v19, v20, v21, v22, v23, v24, v25, v26, v27, v28, v29, v30, v31, v32, v33, v34, v0, rfl, { hs with e8 := fun _ => rfl }, { hw.next (hb := hb) with }⟩
    | 2, _ =>
      have e8x := hs.e8 (haft 1 (by decide))
      subst e8x
      exact i_val rfl (.bool true) w' (by rfl) (by go_simp) ⟨v7, (.int .u16 32771), (.bool true), v10, v11, v12, v13, v14, v15, v16, v17, v18, v19, v20, v21, v22, v23, v24, v25, v26, v27, v28, v29, v30, v31, v32, v33, v34, v0, rfl, { hs with e9 := fun _ => rfl }, { hw with }⟩
    | 3, _ =>
      have e9x := hs.e9 (haft 2 (by decide))
      subst e9x
      exact i_val rfl (.bool true) w' (by rfl) (by go_simp) ⟨v7, v8, (.bool true), (.bool true), v11, v12, v13, v14, v15, v16, v17, v18, v19, v20, v21, v22, v23, v24, v25, v26, v27, v28, v29, v30, v31, v32, v33, v34, v0, rfl, { hs with e10 := fun _ => rfl }, { hw with }⟩
    | 4, _ =>
      have e10x := hs.e10 (haft 3 (by decide))
      subst e10x
      exact i_val rfl (poV pt8) w' (by rfl) (run_loadVar_of 50 _ rfl b1 rfl 50 (poA pt8) _ (K1.out w' hw.below) Try.underlying50 rfl (po_info pt8)) ⟨v7, v8, v9, (.bool true), (poV pt8), v12, v13, v14, v15, v16, v17, v18, v19, v20, v21, v22, v23, v24, v25, v26, v27, v28, v29, v30, v31, v32, v33, v34, v0, rfl, { hs with e11 := fun _ => rfl }, { hw with }⟩
    | 5, _ =>
      have e10x := hs.e10 (haft 3 (by decide))
      subst e10x
      have e11x := hs.e11 (haft 4 (by decide))
      subst e11x
      exact i_call rfl (.bool true) 8 #[poV pt8] (fun w2 => Below w'.heap.size w' w2) (by rfl) (by go_simp) (on_any pt8 w') fun w2 hb => ⟨v7, v8, v9, (.bool true), (poV pt8), (.bool true), v13, v14, v15, v16, v17, v18, v19, v20, v21, v22, v23, v24, v25, v26, v27, v28, v29, v30, v31, v32, v33, v34, v0, rfl, { hs with e12 := fun _ => rfl }, { hw.next (hb := hb) with }⟩
    | 6, _ =>
      have e10x := hs.e10 (haft 3 (by decide))
      subst e10x
      have e12x := hs.e12 (haft 5 (by decide))
      subst e12x
      exact i_val rfl (.bool true) w' (by rfl) (by go_simp) ⟨v7, v8, v9, (.bool true), v11, (.bool true), (.bool true), v14, v15, v16, v17, v18, v19, v20, v21, v22, v23, v24, v25, v26, v27, v28, v29, v30, v31, v32, v33, v34, v0, rfl, { hs with e13 := fun _ => rfl }, { hw with }⟩
    | 7, _ =>
      have e13x := hs.e13 (haft 6 (by decide))
      subst e13x
      exact i_val rfl (.bool true) w' (by rfl) (by go_simp) ⟨v7, v8, v9, v10, v11, v12, (.bool true), (.bool true), v15, v16, v17, v18, v19, v20, v21, v22, v23, v24, v25, v26, v27, v28, v29, v30, v31, v32, v33, v34, v0, rfl, { hs with e14 := fun _ => rfl }, { hw with }⟩
    | 8, _ =>
      have e14x := hs.e14 (haft 7 (by decide))
      subst e14x
      exact i_val rfl (.agg ar) w' (by rfl) (run_loadVar_of 41 _ rfl b2 rfl 41 ar _ (K2.out w' hw.below) Try.underlying41 rfl IR.out) ⟨v7, v8, v9, v10, v11, v12, v13, (.bool true), (.agg ar), v16, v17, v18, v19, v20, v21, v22, v23, v24, v25, v26, v27, v28, v29, v30, v31, v32, v33, v34, v0, rfl, { hs with e15 := fun _ => rfl }, { hw with }⟩
    | 9, _ =>
      have e14x := hs.e14 (haft 7 (by decide))
      subst e14x
      have e15x := hs.e15 (haft 8 (by decide))
      subst e15x
      refine i_callx rfl 7 #[.agg ar] (fun v w2 => IsSt w2 (coldS st8) v ∧ Below w'.heap.size w' w2) (by rfl) (by go_simp) (cold_is (IS.out w' hw.below)) ?_
      intro u w2 ⟨hq, hb⟩
      exact ⟨v7, v8, v9, v10, v11, v12, v13, (.bool true), (.agg ar), u, v17, v18, v19, v20, v21, v22, v23, v24, v25, v26, v27, v28, v29, v30, v31, v32, v33, v34, v0, rfl, { hs with }, { hw.next (hb := hb) with p16 := fun _ => hq }⟩
    | 10, _ =>
      have e14x := hs.e14 (haft 7 (by decide))
      subst e14x
      have p16x := hw.p16 (haft 9 (by decide))
      obtain ⟨B, y1, y2, y3, y4, rfl, oo⟩ := p16x
      obtain ⟨qa, qm, rfl, -, -⟩ := oo.o1.shape
      exact i_val rfl (.slice qa 1 qm) w' (by rfl) (by go_simp; try rfl) ⟨v7, v8, v9, v10, v11, v12, v13, (.bool true), v15, _, (.slice qa 1 qm), v18, v19, v20, v21, v22, v23, v24, v25, v26, v27, v28, v29, v30, v31, v32, v33, v34, v0, rfl, { hs with }, { hw with p17 := fun _ => ⟨qa, qm, rfl⟩ }⟩
    | 11, _ =>
      have e14x := hs.e14 (haft 7 (by decide))
      subst e14x
      have p17x := hw.p17 (haft 10 (by decide))
      obtain ⟨qa, qm, rfl⟩ := p17x
      exact i_val rfl (.int .i64 1) w' (by rfl) (by go_simp) ⟨v7, v8, v9, v10, v11, v12, v13, (.bool true), v15, v16, _, (.int .i64 1), v19, v20, v21, v22, v23, v24, v25, v26, v27, v28, v29, v30, v31, v32, v33, v34, v0, rfl, { hs with e18 := fun _ => rfl }, { hw with }⟩
    | 12, _ =>
      have e14x := hs.e14 (haft 7 (by decide))
      subst e14x
      have e18x := hs.e18 (haft 11 (by decide))
      subst e18x
      exact i_val rfl (.bool true) w' (by rfl) (by go_simp) ⟨v7, v8, v9, v10, v11, v12, v13, (.bool true), v15, v16, v17, (.int .i64 1), (.bool true), v20, v21, v22, v23, v24, v25, v26, v27, v28, v29, v30, v31, v32, v33, v34, v0, rfl, { hs with e19 := fun _ => rfl }, { hw with }⟩
    | 13, _ =>
      have e14x := hs.e14 (haft 7 (by decide))
      subst e14x
      have e19x := hs.e19 (haft 12 (by decide))
      subst e19x
      exact i_val rfl (.bool true) w' (by rfl) (by go_simp) ⟨v7, v8, v9, v10, v11, v12, v13, (.bool true), v15, v16, v17, v18, (.bool true), (.bool true), v21, v22, v23, v24, v25, v26, v27, v28, v29, v30, v31, v32, v33, v34, v0, rfl, { hs with e20 := fun _ => rfl }, { hw with }⟩
    | 14, _ =>
      have e20x := hs.e20 (haft 13 (by decide))
      subst e20x
      exact i_val rfl (.bool true) w' (by rfl) (by go_simp) ⟨v7, v8, v9, v10, v11, v12, v13, v14, v15, v16, v17, v18, v19, (.bool true), (.bool true), v22, v23, v24, v25, v26, v27, v28, v29, v30, v31, v32, v33, v34, v0, rfl, { hs with e21 := fun _ => rfl }, { hw with }⟩
    | 15, _ =>
      have e21x := hs.e21 (haft 14 (by decide))
      subst e21x
      exact i_val rfl (.agg ar) w' (by rfl) (run_loadVar_of 41 _ rfl b2 rfl 41 ar _ (K2.out w' hw.below) Try.underlying41 rfl IR.out) ⟨v7, v8, v9, v10, v11, v12, v13, v14, v15, v16, v17, v18, v19, v20, (.bool true), (.agg ar), v23, v24, v25, v26, v27, v28, v29, v30, v31, v32, v33, v34, v0, rfl, { hs with e22 := fun _ => rfl }, { hw with }⟩
    | 16, _ =>
      have e21x := hs.e21 (haft 14 (by decide))
      subst e21x
      have e22x := hs.e22 (haft 15 (by decide))
      subst e22x
      refine i_callx rfl 7 #[.agg ar] (fun v w2 => IsSt w2 (coldS st8) v ∧ Below w'.heap.size w' w2) (by rfl) (by go_simp) (cold_is (IS.out w' hw.below)) ?_
      intro u w2 ⟨hq, hb⟩
      exact ⟨v7, v8, v9, v10, v11, v12, v13, v14, v15, v16, v17, v18, v19, v20, (.bool true), (.agg ar), u, v24, v25, v26, v27, v28, v29, v30, v31, v32, v33, v34, v0, rfl, { hs with }, { hw.next (hb := hb) with p23 := fun _ => hq }⟩
    | 17, _ =>
      have e21x := hs.e21 (haft 14 (by decide))
      subst e21x
      have p23x := hw.p23 (haft 16 (by decide))
      obtain ⟨B, y1, y2, y3, y4, rfl, oo⟩ := p23x
      exact i_val rfl y1 w' (by rfl) (by go_simp; try rfl) ⟨v7, v8, v9, v10, v11, v12, v13, v14, v15, v16, v17, v18, v19, v20, (.bool true), v22, _, y1, v25, v26, v27, v28, v29, v30, v31, v32, v33, v34, v0, rfl, { hs with }, { hw with p24 := fun _ => ⟨B, oo.o1⟩ }⟩
    | 18, _ =>
      have e21x := hs.e21 (haft 14 (by decide))
      subst e21x
      have p24x := hw.p24 (haft 17 (by decide))
      obtain ⟨q, qm, rfl, hqm, he⟩ := p24x.el
      exact i_val rfl (.pointer (some ⟨q, 0, none⟩)) w' (by rfl) (by go_simp) ⟨v7, v8, v9, v10, v11, v12, v13, v14, v15, v16, v17, v18, v19, v20, (.bool true), v22, v23, _, (.pointer (some ⟨q, 0, none⟩)), v26, v27, v28, v29, v30, v31, v32, v33, v34, v0, rfl, { hs with }, { hw with p25 := fun _ => he }⟩
    | 19, _ =>
      have e21x := hs.e21 (haft 14 (by decide))
      subst e21x
      have p25x := hw.p25 (haft 18 (by decide))
      obtain ⟨q, rfl, hq, he⟩ := p25x
      exact i_val rfl (.pointer (some ⟨q, 7, none⟩)) w' (by rfl) (by go_simp) ⟨v7, v8, v9, v10, v11, v12, v13, v14, v15, v16, v17, v18, v19, v20, (.bool true), v22, v23, v24, _, (.pointer (some ⟨q, 7, none⟩)), v27, v28, v29, v30, v31, v32, v33, v34, v0, rfl, { hs with }, { hw with p26 := fun _ => ⟨q, rfl, hq, he⟩ }⟩
    | 20, _ =>
      have e21x := hs.e21 (haft 14 (by decide))
      subst e21x
      have p26x := hw.p26 (haft 19 (by decide))
      obtain ⟨q, rfl, hq, he⟩ := p26x
      have q7 : w'.cell? ⟨q, 7, none⟩ = some (.bool true) := he 7 _ rfl
      exact i_val rfl (.bool true) w' (by rfl) (by go_simp) ⟨v7, v8, v9, v10, v11, v12, v13, v14, v15, v16, v17, v18, v19, v20, (.bool true), v22, v23, v24, v25, _, (.bool true), v28, v29, v30, v31, v32, v33, v34, v0, rfl, { hs with e27 := fun _ => rfl }, { hw with }⟩
    | 21, _ =>
      have e21x := hs.e21 (haft 14 (by decide))
      subst e21x
      have e27x := hs.e27 (haft 20 (by decide))
      subst e27x
      exact i_val rfl (.bool true) w' (by rfl) (by go_simp) ⟨v7, v8, v9, v10, v11, v12, v13, v14, v15, v16, v17, v18, v19, v20, (.bool true), v22, v23, v24, v25, v26, (.bool true), (.bool true), v29, v30, v31, v32, v33, v34, v0, rfl, { hs with e28 := fun _ => rfl }, { hw with }⟩
    | 22, _ =>
      have e28x := hs.e28 (haft 21 (by decide))
      subst e28x
      exact i_val rfl (.bool true) w' (by rfl) (by go_simp) ⟨v7, v8, v9, v10, v11, v12, v13, v14, v15, v16, v17, v18, v19, v20, v21, v22, v23, v24, v25, v26, v27, (.bool true), (.bool true), v30, v31, v32, v33, v34, v0, rfl, { hs with e29 := fun _ => rfl }, { hw with }⟩
    | 23, _ =>
      have e29x := hs.e29 (haft 22 (by decide))
      subst e29x
      exact i_val rfl (.agg ar) w' (by rfl) (run_loadVar_of 41 _ rfl b2 rfl 41 ar _ (K2.out w' hw.below) Try.underlying41 rfl IR.out) ⟨v7, v8, v9, v10, v11, v12, v13, v14, v15, v16, v17, v18, v19, v20, v21, v22, v23, v24, v25, v26, v27, v28, (.bool true), (.agg ar), v31, v32, v33, v34, v0, rfl, { hs with e30 := fun _ => rfl }, { hw with }⟩
    | 24, _ =>
      have e29x := hs.e29 (haft 22 (by decide))
      subst e29x
      exact i_val rfl (.agg ar) w' (by rfl) (run_loadVar_of 41 _ rfl b2 rfl 41 ar _ (K2.out w' hw.below) Try.underlying41 rfl IR.out) ⟨v7, v8, v9, v10, v11, v12, v13, v14, v15, v16, v17, v18, v19, v20, v21, v22, v23, v24, v25, v26, v27, v28, (.bool true), v30, (.agg ar), v32, v33, v34, v0, rfl, { hs with e31 := fun _ => rfl }, { hw with }⟩
    | 25, _ =>
      have e29x := hs.e29 (haft 22 (by decide))
      subst e29x
      have e31x := hs.e31 (haft 24 (by decide))
      subst e31x
      refine i_callx rfl 11 #[.agg ar] (fun v w2 => IsSt w2 st8 v ∧ Below w'.heap.size w' w2) (by rfl) (by go_simp) (clone_is (IS.out w' hw.below)) ?_
      intro u w2 ⟨hq, hb⟩
      exact ⟨v7, v8, v9, v10, v11, v12, v13, v14, v15, v16, v17, v18, v19, v20, v21, v22, v23, v24, v25, v26, v27, v28, (.bool true), v30, (.agg ar), u, v33, v34, v0, rfl, { hs with }, { hw.next (hb := hb) with p32 := fun _ => hq }⟩
    | 26, _ =>
      have e29x := hs.e29 (haft 22 (by decide))
      subst e29x
      have e30x := hs.e30 (haft 23 (by decide))
      subst e30x
      have p32x := hw.p32 (haft 25 (by decide))
      exact i_call rfl (.bool true) 10 #[.agg ar, v32] (fun w2 => Below w'.heap.size w' w2) (by rfl) (by go_simp) (by have h := same_is (IS.out w' hw.below) p32x; rwa [sameB_self] at h) fun w2 hb => ⟨v7, v8, v9, v10, v11, v12, v13, v14, v15, v16, v17, v18, v19, v20, v21, v22, v23, v24, v25, v26, v27, v28, (.bool true), (.agg ar), v31, v32, (.bool true), v34, v0, rfl, { hs with e33 := fun _ => rfl }, { hw.next (hb := hb) with }⟩
    | 27, _ =>
      have e29x := hs.e29 (haft 22 (by decide))
      subst e29x
      have e33x := hs.e33 (haft 26 (by decide))
      subst e33x
      exact i_val rfl (.bool true) w' (by rfl) (by go_simp) ⟨v7, v8, v9, v10, v11, v12, v13, v14, v15, v16, v17, v18, v19, v20, v21, v22, v23, v24, v25, v26, v27, v28, (.bool true), v30, v31, v32, (.bool true), (.bool true), v0, rfl, { hs with e34 := fun _ => rfl }, { hw with }⟩
    | 28, _ =>
      have e34x := hs.e34 (haft 27 (by decide))
      subst e34x
      exact i_val rfl (.bool true) w' (by rfl) (by go_simp) ⟨v7, v8, v9, v10, v11, v12, v13, v14, v15, v16, v17, v18, v19, v20, v21, v22, v23, v24, v25, v26, v27, v28, v29, v30, v31, v32, v33, (.bool true), (.bool true), rfl, { hs with e0 := fun _ => rfl }, { hw with }⟩
    | k + 29, h =>
      exfalso
      have h2 : k + 29 < 29 := h
      omega
  intro Lx ac w9 hI hall
  obtain ⟨v7, v8, v9, v10, v11, v12, v13, v14, v15, v16, v17, v18, v19, v20, v21, v22, v23, v24, v25, v26, v27, v28, v29, v30, v31, v32, v33, v34, v0, rfl, hs, hw⟩ := hI
  have e7y := hs.e7 (hall 0 (by decide))
  subst e7y
  have e8y := hs.e8 (hall 1 (by decide))
  subst e8y
  have e9y := hs.e9 (hall 2 (by decide))
  subst e9y
  have e10y := hs.e10 (hall 3 (by decide))
  subst e10y
  have e11y := hs.e11 (hall 4 (by decide))
  subst e11y
  have e12y := hs.e12 (hall 5 (by decide))
  subst e12y
  have e13y := hs.e13 (hall 6 (by decide))
  subst e13y
  have e14y := hs.e14 (hall 7 (by decide))
  subst e14y
  have e15y := hs.e15 (hall 8 (by decide))
  subst e15y
  have e18y := hs.e18 (hall 11 (by decide))
  subst e18y
  have e19y := hs.e19 (hall 12 (by decide))
  subst e19y
  have e20y := hs.e20 (hall 13 (by decide))
  subst e20y
  have e21y := hs.e21 (hall 14 (by decide))
  subst e21y
  have e22y := hs.e22 (hall 15 (by decide))
  subst e22y
  have e27y := hs.e27 (hall 20 (by decide))
  subst e27y
  have e28y := hs.e28 (hall 21 (by decide))
  subst e28y
  have e29y := hs.e29 (hall 22 (by decide))
  subst e29y
  have e30y := hs.e30 (hall 23 (by decide))
  subst e30y
  have e31y := hs.e31 (hall 24 (by decide))
  subst e31y
  have e33y := hs.e33 (hall 26 (by decide))
  subst e33y
  have e34y := hs.e34 (hall 27 (by decide))
  subst e34y
  have e0y := hs.e0 (hall 28 (by decide))
  subst e0y
  have W9 := Lib.hid hw.below
  clear hs hall hw
  go_wp2_with fail
  go_ret
  exact ⟨rfl, B0.out.trans (W9.out.mono B0.out.size)⟩
end Go.Proofs.Ytpbdamnlfpfclaa
