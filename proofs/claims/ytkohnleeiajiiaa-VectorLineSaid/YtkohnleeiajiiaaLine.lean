/- VectorLine, its third step. -/
import Derived.Test.YtkohnleeiajiiaaLineI
import Derived.Test.YtkohnleeiajiiaaLess
namespace Go.Proofs.Ytkohnleeiajiiaa
open Go.RowKit
set_option linter.unusedSimpArgs false
set_option linter.unusedVariables false

theorem min_u32 (a b : Int) (w : World) : (Builtin.min_ #[23, 23] 23 #[.int .u32 a, .int .u32 b]).run Try.prog w = .ok (.int .u32 (if b < a then b else a)) w := by
  have u := Try.underlying23
  by_cases c : b < a
  · simp [Builtin.min_, Builtin.min2, go_sem, c]
  · simp [Builtin.min_, Builtin.min2, go_sem, c]

theorem better_is (x y : Vc) (w : World) {b : Bool} (h : lessV x y = b) : Calls Try.prog 21 #[vcV x, vcV y] w fun e w' => e = .returned (.bool b) ∧ Below w.heap.size w w' := by
  rw [← h]
  exact better_any x y w

set_option maxRecDepth 100000 in
set_option maxHeartbeats 8000000 in
theorem line_walk (x y z : Vc) (w : World) (hx : x.c < 4294967296) (hy : y.c < 4294967296) :
    Calls Try.prog 8 #[vcV x, vcV y, vcV z] w fun e w' => e = .returned (.bool true) ∧ Below w.heap.size w w' := by
  obtain ⟨W, hW⟩ : ∃ W, W = ((w.alloc (Obj.cells (vcA x) 57)).alloc (Obj.cells (vcA y) 57)).alloc (Obj.cells (vcA z) 57) := ⟨_, rfl⟩
  have q0 : LnB w w.heap.size (w.heap.size + 1) (w.heap.size + 1 + 1) x y z W := by
    rw [hW]
    have e1 : (w.alloc (Obj.cells (vcA x) 57)).heap.size = w.heap.size + 1 := by simp
    have e2 : ((w.alloc (Obj.cells (vcA x) 57)).alloc (Obj.cells (vcA y) 57)).heap.size = w.heap.size + 1 + 1 := by simp
    have e3 : (((w.alloc (Obj.cells (vcA x) 57)).alloc (Obj.cells (vcA y) 57)).alloc (Obj.cells (vcA z) 57)).heap.size = w.heap.size + 1 + 1 + 1 := by simp
    refine ⟨(((Below.refl _ _).alloc (Nat.le_refl _) _).alloc (by simp) _).alloc (by rw [e2]; omega) _, ((VcAt.new w x 57).alloc (by simp) _).alloc (by rw [e2]; omega) _, ?_, ?_, by rw [e3]; omega, by rw [e3]; omega, by rw [e3]; omega⟩
    · have := (VcAt.new (w.alloc (Obj.cells (vcA x) 57)) y 57).alloc (by simp) (Obj.cells (vcA z) 57)
      rwa [e1] at this
    · have := VcAt.new ((w.alloc (Obj.cells (vcA x) 57)).alloc (Obj.cells (vcA y) 57)) z 57
      rwa [e2] at this
  have HW := Lib.hid hW
  clear hW
  go_enter Try.func8, Try.ntmps8
  go_wp2_with fail
  refine (speaks6_any _).mono ?_
  rintro e w1 ⟨rfl, hb1⟩
  have q1 := q0.next (w' := w1) (by rw [HW.out]; exact hb1)
  clear q0 hb1 HW
  generalize w.heap.size + 1 + 1 = g2 at *
  generalize w.heap.size + 1 = g1 at *
  generalize hg0 : w.heap.size = g0 at *
  have HG := Lib.hid hg0
  clear hg0
  have Q1 := Lib.hid q1
  clear q1
  go_upto_region 3 with fail
  go_cut [7, 8, 9] (fun s7 s8 s9 wx => LnE w x y z s7 s8 s9 wx)
  case first =>
    refine wp_region_inv (I := LnI w w1.drew g0 g1 g2 x y z) (by kernel_rfl) (by kernel_rfl) ⟨undef, undef, undef, undef, undef, undef, undef, undef, undef, rfl, ⟨fun h => Bool.noConfusion h, fun h => Bool.noConfusion h, fun h => Bool.noConfusion h, fun h => Bool.noConfusion h, fun h => Bool.noConfusion h, fun h => Bool.noConfusion h⟩, ⟨Q1.out.drew, Below.refl _ _, fun h => Bool.noConfusion h, fun h => Bool.noConfusion h, fun h => Bool.noConfusion h, fun h => Bool.noConfusion h, fun h => Bool.noConfusion h, fun h => Bool.noConfusion h, fun h => Bool.noConfusion h, fun h => Bool.noConfusion h, fun h => Bool.noConfusion h⟩⟩ ?_ ?_
    · intro i hi L a w' hI hL haft
      obtain ⟨v7, v8, v9, v14, v15, v16, v17, v18, v19, rfl, hs, hw⟩ := hI
      match i, hi with
    | 0, _ =>
      have hq := hw.kx.all
      refine i_val rfl (vcV x) w' (by rfl) ?_ ⟨v7, v8, v9, vcV x, v15, v16, v17, v18, v19, rfl, { hs with e14 := fun _ => rfl }, hw⟩
      go_simp
    | 1, _ =>
      have e14 := hs.e14 (haft 0 (by decide))
      subst e14
      exact i_call rfl (vcV x) 20 #[vcV x] (fun w2 => Below w'.heap.size w' w2) (by rfl) (by go_simp) (vtold_any x w') fun w2 hb => ⟨v7, v8, v9, vcV x, vcV x, v16, v17, v18, v19, rfl, { hs with e15 := fun _ => rfl }, hw.call hb⟩
    | 2, _ =>
      have hq := hw.ky.all
      refine i_val rfl (vcV y) w' (by rfl) ?_ ⟨v7, v8, v9, v14, v15, vcV y, v17, v18, v19, rfl, { hs with e16 := fun _ => rfl }, hw⟩
      go_simp
    | 3, _ =>
      have e16 := hs.e16 (haft 2 (by decide))
      subst e16
      exact i_call rfl (vcV y) 20 #[vcV y] (fun w2 => Below w'.heap.size w' w2) (by rfl) (by go_simp) (vtold_any y w') fun w2 hb => ⟨v7, v8, v9, v14, v15, vcV y, vcV y, v18, v19, rfl, { hs with e17 := fun _ => rfl }, hw.call hb⟩
    | 4, _ =>
      have hq := hw.kz.all
      refine i_val rfl (vcV z) w' (by rfl) ?_ ⟨v7, v8, v9, v14, v15, v16, v17, vcV z, v19, rfl, { hs with e18 := fun _ => rfl }, hw⟩
      go_simp
    | 5, _ =>
      have e18 := hs.e18 (haft 4 (by decide))
      subst e18
      exact i_call rfl (vcV z) 20 #[vcV z] (fun w2 => Below w'.heap.size w' w2) (by rfl) (by go_simp) (vtold_any z w') fun w2 hb => ⟨v7, v8, v9, v14, v15, v16, v17, vcV z, vcV z, rfl, { hs with e19 := fun _ => rfl }, hw.call hb⟩
    | 6, _ =>
      exact i_val rfl (.pointer (some ⟨w'.heap.size, 0, none⟩)) (w'.alloc (.cells nil4 60)) (by rfl) (by go_simp) ⟨(.pointer (some ⟨w'.heap.size, 0, none⟩)), v8, v9, v14, v15, v16, v17, v18, v19, rfl, { hs with }, hw.alloc7 hL⟩
    | 7, _ =>
      exact i_val rfl (.pointer (some ⟨w'.heap.size, 0, none⟩)) (w'.alloc (.cells nil4 60)) (by rfl) (by go_simp) ⟨v7, (.pointer (some ⟨w'.heap.size, 0, none⟩)), v9, v14, v15, v16, v17, v18, v19, rfl, { hs with }, hw.alloc8 hL⟩
    | 8, _ =>
      exact i_val rfl (.pointer (some ⟨w'.heap.size, 0, none⟩)) (w'.alloc (.cells nil4 60)) (by rfl) (by go_simp) ⟨v7, v8, (.pointer (some ⟨w'.heap.size, 0, none⟩)), v14, v15, v16, v17, v18, v19, rfl, { hs with }, hw.alloc9 hL⟩
    | 9, _ =>
      have e15 := hs.e15 (haft 1 (by decide))
      subst e15
      obtain ⟨c, cs, rfl, hc, hz, hk, -⟩ := hw.p7 (haft 6 (by decide))
      exact i_wp rfl (by rfl) (wp_store_row 60 _ _ rfl c (vcA x) rfl rfl 60 cs hk size60 hz (vcA_one x) ⟨(.pointer (some ⟨c, 0, none⟩)), v8, v9, v14, vcV x, v16, v17, v18, v19, rfl, { hs with }, hw.store7 (haft 6 (by decide)) hk hc⟩)
    | 10, _ =>
      have e17 := hs.e17 (haft 3 (by decide))
      subst e17
      obtain ⟨c, cs, rfl, hc, hz, hk, -⟩ := hw.p8 (haft 7 (by decide))
      exact i_wp rfl (by rfl) (wp_store_row 60 _ _ rfl c (vcA y) rfl rfl 60 cs hk size60 hz (vcA_one y) ⟨v7, (.pointer (some ⟨c, 0, none⟩)), v9, v14, v15, v16, vcV y, v18, v19, rfl, { hs with }, hw.store8 (haft 7 (by decide)) hk hc⟩)
    | 11, _ =>
      have e19 := hs.e19 (haft 5 (by decide))
      subst e19
      obtain ⟨c, cs, rfl, hc, hz, hk, -⟩ := hw.p9 (haft 8 (by decide))
      exact i_wp rfl (by rfl) (wp_store_row 60 _ _ rfl c (vcA z) rfl rfl 60 cs hk size60 hz (vcA_one z) ⟨v7, v8, (.pointer (some ⟨c, 0, none⟩)), v14, v15, v16, v17, v18, vcV z, rfl, { hs with }, hw.store9 (haft 8 (by decide)) hk hc⟩)
    · intro L a w' hI hall
      obtain ⟨v7, v8, v9, v14, v15, v16, v17, v18, v19, rfl, hs, hw⟩ := hI
      obtain ⟨c, cs, rfl, hc, -, hk, he⟩ := hw.p7 (hall 6 (by decide))
      obtain ⟨d, ds, rfl, hd, -, hk2, he2⟩ := hw.p8 (hall 7 (by decide))
      obtain ⟨f, fs, rfl, hf, -, hk3, he3⟩ := hw.p9 (hall 8 (by decide))
      have e := he (hall 9 (by decide))
      have e2 := he2 (hall 10 (by decide))
      have e3 := he3 (hall 11 (by decide))
      subst e e2 e3
      have hE : LnE w x y z (.pointer (some ⟨c, 0, none⟩)) (.pointer (some ⟨d, 0, none⟩)) (.pointer (some ⟨f, 0, none⟩)) w' := ⟨c, d, f, rfl, rfl, rfl, ⟨hw.at.below, .of_blk hk, .of_blk hk2, .of_blk hk3, hk.lt, hk2.lt, hk3.lt⟩⟩
      have HE := Lib.hid hE
      clear hE hw hs hk hk2 hk3
      go_wp2_with fail
      go_meet
      exact HE.out
  case rest =>
    obtain ⟨c, d, f, rfl, rfl, rfl, hC0⟩ := hcut
    have h1 := hC0.kx.all
    have h2 := hC0.ky.all
    have heq : ∀ W, (Op.equalIn 10000 60 (vcV x) (vcV y)).run Try.prog W = .ok (eqV x y) W := fun W => equal_vc x y W
    obtain ⟨k, hkx, hky, hk⟩ : ∃ k : Nat, x.c + k ≤ 4294967295 ∧ y.c + k ≤ 4294967295 ∧ (x.c + k = 4294967295 ∧ y.c ≤ x.c ∨ y.c + k = 4294967295 ∧ x.c ≤ y.c) := by
      by_cases q : y.c ≤ x.c
      · exact ⟨4294967295 - x.c, by omega, by omega, .inl ⟨by omega, q⟩⟩
      · exact ⟨4294967295 - y.c, by omega, by omega, .inr ⟨by omega, by omega⟩⟩
    have hmin : ∀ W, (Builtin.min_ #[23, 23] 23 #[.int .u32 (4294967295 - (x.c : Int)), .int .u32 (4294967295 - (y.c : Int))]).run Try.prog W = .ok (.int .u32 (k : Nat)) W := fun W => by
      rw [min_u32]
      congr 2
      split <;> omega
    have kl : k < 4294967296 := by omega
    have LP := Lib.hid (less_plus x y k hkx hky)
    have LM := Lib.hid (less_more x hx)
    clear hkx hky hk
    rcases less_tri x y with ⟨t1, t2, t3⟩ | ⟨t1, t2, t3⟩ | ⟨t1, t2, t3⟩
    · go_wp2_with fail
      refine (better_is x y _ t1).mono ?_
      rintro e w2 ⟨rfl, hb⟩
      have hC1 := hC0.next hb
      clear hb hC0 h1 h2
      have h1 := hC1.kx.all
      have h2 := hC1.ky.all
      go_wp2_with fail
      refine (better_is y x _ t2).mono ?_
      rintro e w3 ⟨rfl, hb⟩
      have hC2 := hC1.next hb
      clear hb hC1 h1 h2
      have h1 := hC2.kx.all
      have h2 := hC2.ky.all
      rw [t3] at heq
      go_upto_region 12 with fail
      clear h1 h2 hmin heq
      cases t4 : lessV y z with
      | false =>
        refine wp_region_quiet (C := LnB w c d f x y z) (by kernel_rfl) (by kernel_rfl) hC2.drew ?_
        (refine q_val (v := ?_) (by rfl) ?_ ?_; rotate_left; (· (intro w hC; go_simp; try with_reducible rfl)); (try simp only [Act.put, List.getElem_toArray, List.getElem_cons_succ, List.getElem_cons_zero, List.setIfInBounds_toArray, List.set_cons_zero, List.set_cons_succ]))
        (refine q_val (v := ?_) (by rfl) ?_ ?_; rotate_left; (· (intro w hC; go_simp; try with_reducible rfl)); (try simp only [Act.put, List.getElem_toArray, List.getElem_cons_succ, List.getElem_cons_zero, List.setIfInBounds_toArray, List.set_cons_zero, List.set_cons_succ]))
        (refine q_val (v := ?_) (by rfl) ?_ ?_; rotate_left; (· (intro w hC; go_simp; try with_reducible rfl)); (try simp only [Act.put, List.getElem_toArray, List.getElem_cons_succ, List.getElem_cons_zero, List.setIfInBounds_toArray, List.set_cons_zero, List.set_cons_succ]))
        (refine q_val (v := ?_) (by rfl) ?_ ?_; rotate_left; (· (intro w hC; have hq := hC.kx.all; go_simp; try with_reducible rfl)); (try simp only [Act.put, List.getElem_toArray, List.getElem_cons_succ, List.getElem_cons_zero, List.setIfInBounds_toArray, List.set_cons_zero, List.set_cons_succ]))
        (refine q_val (v := ?_) (by rfl) ?_ ?_; rotate_left; (· (intro w hC; have hq := hC.ky.all; go_simp; try with_reducible rfl)); (try simp only [Act.put, List.getElem_toArray, List.getElem_cons_succ, List.getElem_cons_zero, List.setIfInBounds_toArray, List.set_cons_zero, List.set_cons_succ]))
        (refine q_call (v := .bool true) 21 #[vcV x, vcV y] (by rfl) (fun w hC => by go_simp) (fun w hC => calls_in (better_is x y w t1) (fun w' hb => hC.next hb)) ?_; (try simp only [Act.put, List.getElem_toArray, List.getElem_cons_succ, List.getElem_cons_zero, List.setIfInBounds_toArray, List.set_cons_zero, List.set_cons_succ]))
        (refine q_val (v := ?_) (by rfl) ?_ ?_; rotate_left; (· (intro w hC; go_simp; try with_reducible rfl)); (try simp only [Act.put, List.getElem_toArray, List.getElem_cons_succ, List.getElem_cons_zero, List.setIfInBounds_toArray, List.set_cons_zero, List.set_cons_succ]))
        (refine q_val (v := ?_) (by rfl) ?_ ?_; rotate_left; (· (intro w hC; go_simp; try with_reducible rfl)); (try simp only [Act.put, List.getElem_toArray, List.getElem_cons_succ, List.getElem_cons_zero, List.setIfInBounds_toArray, List.set_cons_zero, List.set_cons_succ]))
        (refine q_val (v := ?_) (by rfl) ?_ ?_; rotate_left; (· (intro w hC; have hq := hC.ky.all; go_simp; try with_reducible rfl)); (try simp only [Act.put, List.getElem_toArray, List.getElem_cons_succ, List.getElem_cons_zero, List.setIfInBounds_toArray, List.set_cons_zero, List.set_cons_succ]))
        (refine q_val (v := ?_) (by rfl) ?_ ?_; rotate_left; (· (intro w hC; have hq := hC.kz.all; go_simp; try with_reducible rfl)); (try simp only [Act.put, List.getElem_toArray, List.getElem_cons_succ, List.getElem_cons_zero, List.setIfInBounds_toArray, List.set_cons_zero, List.set_cons_succ]))
        (refine q_call (v := .bool false) 21 #[vcV y, vcV z] (by rfl) (fun w hC => by go_simp) (fun w hC => calls_in (better_is y z w t4) (fun w' hb => hC.next hb)) ?_; (try simp only [Act.put, List.getElem_toArray, List.getElem_cons_succ, List.getElem_cons_zero, List.setIfInBounds_toArray, List.set_cons_zero, List.set_cons_succ]))
        (refine q_val (v := ?_) (by rfl) ?_ ?_; rotate_left; (· (intro w hC; go_simp; try with_reducible rfl)); (try simp only [Act.put, List.getElem_toArray, List.getElem_cons_succ, List.getElem_cons_zero, List.setIfInBounds_toArray, List.set_cons_zero, List.set_cons_succ]))
        (refine q_val (v := ?_) (by rfl) ?_ ?_; rotate_left; (· (intro w hC; go_simp; try with_reducible rfl)); (try simp only [Act.put, List.getElem_toArray, List.getElem_cons_succ, List.getElem_cons_zero, List.setIfInBounds_toArray, List.set_cons_zero, List.set_cons_succ]))
        (refine q_val (v := ?_) (by rfl) ?_ ?_; rotate_left; (· (intro w hC; go_simp; try with_reducible rfl)); (try simp only [Act.put, List.getElem_toArray, List.getElem_cons_succ, List.getElem_cons_zero, List.setIfInBounds_toArray, List.set_cons_zero, List.set_cons_succ]))
        (refine q_skip (by rfl) ?_; (try simp only [Act.put, List.getElem_toArray, List.getElem_cons_succ, List.getElem_cons_zero, List.setIfInBounds_toArray, List.set_cons_zero, List.set_cons_succ]))
        (refine q_skip (by rfl) ?_; (try simp only [Act.put, List.getElem_toArray, List.getElem_cons_succ, List.getElem_cons_zero, List.setIfInBounds_toArray, List.set_cons_zero, List.set_cons_succ]))
        (refine q_skip (by rfl) ?_; (try simp only [Act.put, List.getElem_toArray, List.getElem_cons_succ, List.getElem_cons_zero, List.setIfInBounds_toArray, List.set_cons_zero, List.set_cons_succ]))
        (refine q_val (v := ?_) (by rfl) ?_ ?_; rotate_left; (· (intro w hC; go_simp; try with_reducible rfl)); (try simp only [Act.put, List.getElem_toArray, List.getElem_cons_succ, List.getElem_cons_zero, List.setIfInBounds_toArray, List.set_cons_zero, List.set_cons_succ]))
        (refine q_val (v := ?_) (by rfl) ?_ ?_; rotate_left; (· (intro w hC; go_simp; try with_reducible rfl)); (try simp only [Act.put, List.getElem_toArray, List.getElem_cons_succ, List.getElem_cons_zero, List.setIfInBounds_toArray, List.set_cons_zero, List.set_cons_succ]))
        (refine q_val (v := ?_) (by rfl) ?_ ?_; rotate_left; (· (intro w hC; go_simp; try with_reducible rfl)); (try simp only [Act.put, List.getElem_toArray, List.getElem_cons_succ, List.getElem_cons_zero, List.setIfInBounds_toArray, List.set_cons_zero, List.set_cons_succ]))
        (refine q_val (v := ?_) (by rfl) ?_ ?_; rotate_left; (· (intro w hC; have hq := hC.kx.all; go_simp; try with_reducible rfl)); (try simp only [Act.put, List.getElem_toArray, List.getElem_cons_succ, List.getElem_cons_zero, List.setIfInBounds_toArray, List.set_cons_zero, List.set_cons_succ]))
        (refine q_val (v := ?_) (by rfl) ?_ ?_; rotate_left; (· (intro w hC; go_simp; try with_reducible rfl)); (try simp only [Act.put, List.getElem_toArray, List.getElem_cons_succ, List.getElem_cons_zero, List.setIfInBounds_toArray, List.set_cons_zero, List.set_cons_succ]))
        (refine q_call (v := vcV (plusV x k)) 23 #[vcV x, .int .u32 (k : Nat)] (by rfl) (fun w hC => by go_simp) (fun w hC => calls_in (plus_any x k w hx kl) (fun w' hb => hC.next hb)) ?_; (try simp only [Act.put, List.getElem_toArray, List.getElem_cons_succ, List.getElem_cons_zero, List.setIfInBounds_toArray, List.set_cons_zero, List.set_cons_succ]))
        (refine q_val (v := ?_) (by rfl) ?_ ?_; rotate_left; (· (intro w hC; have hq := hC.ky.all; go_simp; try with_reducible rfl)); (try simp only [Act.put, List.getElem_toArray, List.getElem_cons_succ, List.getElem_cons_zero, List.setIfInBounds_toArray, List.set_cons_zero, List.set_cons_succ]))
        (refine q_val (v := ?_) (by rfl) ?_ ?_; rotate_left; (· (intro w hC; go_simp; try with_reducible rfl)); (try simp only [Act.put, List.getElem_toArray, List.getElem_cons_succ, List.getElem_cons_zero, List.setIfInBounds_toArray, List.set_cons_zero, List.set_cons_succ]))
        (refine q_call (v := vcV (plusV y k)) 23 #[vcV y, .int .u32 (k : Nat)] (by rfl) (fun w hC => by go_simp) (fun w hC => calls_in (plus_any y k w hy kl) (fun w' hb => hC.next hb)) ?_; (try simp only [Act.put, List.getElem_toArray, List.getElem_cons_succ, List.getElem_cons_zero, List.setIfInBounds_toArray, List.set_cons_zero, List.set_cons_succ]))
        (refine q_call (v := .bool true) 21 #[vcV (plusV x k), vcV (plusV y k)] (by rfl) (fun w hC => by go_simp) (fun w hC => calls_in (better_is (plusV x k) (plusV y k) w (by rw [LP.out]; exact t1)) (fun w' hb => hC.next hb)) ?_; (try simp only [Act.put, List.getElem_toArray, List.getElem_cons_succ, List.getElem_cons_zero, List.setIfInBounds_toArray, List.set_cons_zero, List.set_cons_succ]))
        (refine q_val (v := ?_) (by rfl) ?_ ?_; rotate_left; (· (intro w hC; have hq := hC.kx.all; go_simp; try with_reducible rfl)); (try simp only [Act.put, List.getElem_toArray, List.getElem_cons_succ, List.getElem_cons_zero, List.setIfInBounds_toArray, List.set_cons_zero, List.set_cons_succ]))
        (refine q_val (v := ?_) (by rfl) ?_ ?_; rotate_left; (· (intro w hC; have hq := hC.ky.all; go_simp; try with_reducible rfl)); (try simp only [Act.put, List.getElem_toArray, List.getElem_cons_succ, List.getElem_cons_zero, List.setIfInBounds_toArray, List.set_cons_zero, List.set_cons_succ]))
        (refine q_call (v := .bool true) 21 #[vcV x, vcV y] (by rfl) (fun w hC => by go_simp) (fun w hC => calls_in (better_is x y w t1) (fun w' hb => hC.next hb)) ?_; (try simp only [Act.put, List.getElem_toArray, List.getElem_cons_succ, List.getElem_cons_zero, List.setIfInBounds_toArray, List.set_cons_zero, List.set_cons_succ]))
        (refine q_val (v := ?_) (by rfl) ?_ ?_; rotate_left; (· (intro w hC; go_simp; try with_reducible rfl)); (try simp only [Act.put, List.getElem_toArray, List.getElem_cons_succ, List.getElem_cons_zero, List.setIfInBounds_toArray, List.set_cons_zero, List.set_cons_succ]))
        (refine q_val (v := ?_) (by rfl) ?_ ?_; rotate_left; (· (intro w hC; go_simp; try with_reducible rfl)); (try simp only [Act.put, List.getElem_toArray, List.getElem_cons_succ, List.getElem_cons_zero, List.setIfInBounds_toArray, List.set_cons_zero, List.set_cons_succ]))
        (refine q_val (v := ?_) (by rfl) ?_ ?_; rotate_left; (· (intro w hC; go_simp; try with_reducible rfl)); (try simp only [Act.put, List.getElem_toArray, List.getElem_cons_succ, List.getElem_cons_zero, List.setIfInBounds_toArray, List.set_cons_zero, List.set_cons_succ]))
        (refine q_val (v := ?_) (by rfl) ?_ ?_; rotate_left; (· (intro w hC; have hq := hC.kx.all; go_simp; try with_reducible rfl)); (try simp only [Act.put, List.getElem_toArray, List.getElem_cons_succ, List.getElem_cons_zero, List.setIfInBounds_toArray, List.set_cons_zero, List.set_cons_succ]))
        (refine q_call (v := vcV (plusV x 1)) 23 #[vcV x, .int .u32 (1 : Nat)] (by rfl) (fun w hC => by go_simp) (fun w hC => calls_in (plus_any x 1 w hx (by omega)) (fun w' hb => hC.next hb)) ?_; (try simp only [Act.put, List.getElem_toArray, List.getElem_cons_succ, List.getElem_cons_zero, List.setIfInBounds_toArray, List.set_cons_zero, List.set_cons_succ]))
        (refine q_val (v := ?_) (by rfl) ?_ ?_; rotate_left; (· (intro w hC; have hq := hC.kx.all; go_simp; try with_reducible rfl)); (try simp only [Act.put, List.getElem_toArray, List.getElem_cons_succ, List.getElem_cons_zero, List.setIfInBounds_toArray, List.set_cons_zero, List.set_cons_succ]))
        (refine q_call (v := .bool false) 21 #[vcV (plusV x 1), vcV x] (by rfl) (fun w hC => by go_simp) (fun w hC => calls_in (better_is (plusV x 1) x w LM.out) (fun w' hb => hC.next hb)) ?_; (try simp only [Act.put, List.getElem_toArray, List.getElem_cons_succ, List.getElem_cons_zero, List.setIfInBounds_toArray, List.set_cons_zero, List.set_cons_succ]))
        (refine q_val (v := ?_) (by rfl) ?_ ?_; rotate_left; (· (intro w hC; go_simp; try with_reducible rfl)); (try simp only [Act.put, List.getElem_toArray, List.getElem_cons_succ, List.getElem_cons_zero, List.setIfInBounds_toArray, List.set_cons_zero, List.set_cons_succ]))
        (refine q_val (v := ?_) (by rfl) ?_ ?_; rotate_left; (· (intro w hC; go_simp; try with_reducible rfl)); (try simp only [Act.put, List.getElem_toArray, List.getElem_cons_succ, List.getElem_cons_zero, List.setIfInBounds_toArray, List.set_cons_zero, List.set_cons_succ]))
        (refine q_val (v := ?_) (by rfl) ?_ ?_; rotate_left; (· (intro w hC; go_simp; try with_reducible rfl)); (try simp only [Act.put, List.getElem_toArray, List.getElem_cons_succ, List.getElem_cons_zero, List.setIfInBounds_toArray, List.set_cons_zero, List.set_cons_succ]))
        refine wpQuiet_nil ?_
        intro w' hC
        go_wp2_with fail
        go_ret
        exact ⟨rfl, hC.below⟩
      | true =>
        have t5 := less_trans x y z t1 t4
        refine wp_region_quiet (C := LnB w c d f x y z) (by kernel_rfl) (by kernel_rfl) hC2.drew ?_
        (refine q_val (v := ?_) (by rfl) ?_ ?_; rotate_left; (· (intro w hC; go_simp; try with_reducible rfl)); (try simp only [Act.put, List.getElem_toArray, List.getElem_cons_succ, List.getElem_cons_zero, List.setIfInBounds_toArray, List.set_cons_zero, List.set_cons_succ]))
        (refine q_val (v := ?_) (by rfl) ?_ ?_; rotate_left; (· (intro w hC; go_simp; try with_reducible rfl)); (try simp only [Act.put, List.getElem_toArray, List.getElem_cons_succ, List.getElem_cons_zero, List.setIfInBounds_toArray, List.set_cons_zero, List.set_cons_succ]))
        (refine q_val (v := ?_) (by rfl) ?_ ?_; rotate_left; (· (intro w hC; go_simp; try with_reducible rfl)); (try simp only [Act.put, List.getElem_toArray, List.getElem_cons_succ, List.getElem_cons_zero, List.setIfInBounds_toArray, List.set_cons_zero, List.set_cons_succ]))
        (refine q_val (v := ?_) (by rfl) ?_ ?_; rotate_left; (· (intro w hC; have hq := hC.kx.all; go_simp; try with_reducible rfl)); (try simp only [Act.put, List.getElem_toArray, List.getElem_cons_succ, List.getElem_cons_zero, List.setIfInBounds_toArray, List.set_cons_zero, List.set_cons_succ]))
        (refine q_val (v := ?_) (by rfl) ?_ ?_; rotate_left; (· (intro w hC; have hq := hC.ky.all; go_simp; try with_reducible rfl)); (try simp only [Act.put, List.getElem_toArray, List.getElem_cons_succ, List.getElem_cons_zero, List.setIfInBounds_toArray, List.set_cons_zero, List.set_cons_succ]))
        (refine q_call (v := .bool true) 21 #[vcV x, vcV y] (by rfl) (fun w hC => by go_simp) (fun w hC => calls_in (better_is x y w t1) (fun w' hb => hC.next hb)) ?_; (try simp only [Act.put, List.getElem_toArray, List.getElem_cons_succ, List.getElem_cons_zero, List.setIfInBounds_toArray, List.set_cons_zero, List.set_cons_succ]))
        (refine q_val (v := ?_) (by rfl) ?_ ?_; rotate_left; (· (intro w hC; go_simp; try with_reducible rfl)); (try simp only [Act.put, List.getElem_toArray, List.getElem_cons_succ, List.getElem_cons_zero, List.setIfInBounds_toArray, List.set_cons_zero, List.set_cons_succ]))
        (refine q_val (v := ?_) (by rfl) ?_ ?_; rotate_left; (· (intro w hC; go_simp; try with_reducible rfl)); (try simp only [Act.put, List.getElem_toArray, List.getElem_cons_succ, List.getElem_cons_zero, List.setIfInBounds_toArray, List.set_cons_zero, List.set_cons_succ]))
        (refine q_val (v := ?_) (by rfl) ?_ ?_; rotate_left; (· (intro w hC; have hq := hC.ky.all; go_simp; try with_reducible rfl)); (try simp only [Act.put, List.getElem_toArray, List.getElem_cons_succ, List.getElem_cons_zero, List.setIfInBounds_toArray, List.set_cons_zero, List.set_cons_succ]))
        (refine q_val (v := ?_) (by rfl) ?_ ?_; rotate_left; (· (intro w hC; have hq := hC.kz.all; go_simp; try with_reducible rfl)); (try simp only [Act.put, List.getElem_toArray, List.getElem_cons_succ, List.getElem_cons_zero, List.setIfInBounds_toArray, List.set_cons_zero, List.set_cons_succ]))
        (refine q_call (v := .bool true) 21 #[vcV y, vcV z] (by rfl) (fun w hC => by go_simp) (fun w hC => calls_in (better_is y z w t4) (fun w' hb => hC.next hb)) ?_; (try simp only [Act.put, List.getElem_toArray, List.getElem_cons_succ, List.getElem_cons_zero, List.setIfInBounds_toArray, List.set_cons_zero, List.set_cons_succ]))
        (refine q_val (v := ?_) (by rfl) ?_ ?_; rotate_left; (· (intro w hC; go_simp; try with_reducible rfl)); (try simp only [Act.put, List.getElem_toArray, List.getElem_cons_succ, List.getElem_cons_zero, List.setIfInBounds_toArray, List.set_cons_zero, List.set_cons_succ]))
        (refine q_val (v := ?_) (by rfl) ?_ ?_; rotate_left; (· (intro w hC; go_simp; try with_reducible rfl)); (try simp only [Act.put, List.getElem_toArray, List.getElem_cons_succ, List.getElem_cons_zero, List.setIfInBounds_toArray, List.set_cons_zero, List.set_cons_succ]))
        (refine q_val (v := ?_) (by rfl) ?_ ?_; rotate_left; (· (intro w hC; go_simp; try with_reducible rfl)); (try simp only [Act.put, List.getElem_toArray, List.getElem_cons_succ, List.getElem_cons_zero, List.setIfInBounds_toArray, List.set_cons_zero, List.set_cons_succ]))
        (refine q_val (v := ?_) (by rfl) ?_ ?_; rotate_left; (· (intro w hC; have hq := hC.kx.all; go_simp; try with_reducible rfl)); (try simp only [Act.put, List.getElem_toArray, List.getElem_cons_succ, List.getElem_cons_zero, List.setIfInBounds_toArray, List.set_cons_zero, List.set_cons_succ]))
        (refine q_val (v := ?_) (by rfl) ?_ ?_; rotate_left; (· (intro w hC; have hq := hC.kz.all; go_simp; try with_reducible rfl)); (try simp only [Act.put, List.getElem_toArray, List.getElem_cons_succ, List.getElem_cons_zero, List.setIfInBounds_toArray, List.set_cons_zero, List.set_cons_succ]))
        (refine q_call (v := .bool true) 21 #[vcV x, vcV z] (by rfl) (fun w hC => by go_simp) (fun w hC => calls_in (better_is x z w t5) (fun w' hb => hC.next hb)) ?_; (try simp only [Act.put, List.getElem_toArray, List.getElem_cons_succ, List.getElem_cons_zero, List.setIfInBounds_toArray, List.set_cons_zero, List.set_cons_succ]))
        (refine q_val (v := ?_) (by rfl) ?_ ?_; rotate_left; (· (intro w hC; go_simp; try with_reducible rfl)); (try simp only [Act.put, List.getElem_toArray, List.getElem_cons_succ, List.getElem_cons_zero, List.setIfInBounds_toArray, List.set_cons_zero, List.set_cons_succ]))
        (refine q_val (v := ?_) (by rfl) ?_ ?_; rotate_left; (· (intro w hC; go_simp; try with_reducible rfl)); (try simp only [Act.put, List.getElem_toArray, List.getElem_cons_succ, List.getElem_cons_zero, List.setIfInBounds_toArray, List.set_cons_zero, List.set_cons_succ]))
        (refine q_val (v := ?_) (by rfl) ?_ ?_; rotate_left; (· (intro w hC; go_simp; try with_reducible rfl)); (try simp only [Act.put, List.getElem_toArray, List.getElem_cons_succ, List.getElem_cons_zero, List.setIfInBounds_toArray, List.set_cons_zero, List.set_cons_succ]))
        (refine q_val (v := ?_) (by rfl) ?_ ?_; rotate_left; (· (intro w hC; have hq := hC.kx.all; go_simp; try with_reducible rfl)); (try simp only [Act.put, List.getElem_toArray, List.getElem_cons_succ, List.getElem_cons_zero, List.setIfInBounds_toArray, List.set_cons_zero, List.set_cons_succ]))
        (refine q_val (v := ?_) (by rfl) ?_ ?_; rotate_left; (· (intro w hC; go_simp; try with_reducible rfl)); (try simp only [Act.put, List.getElem_toArray, List.getElem_cons_succ, List.getElem_cons_zero, List.setIfInBounds_toArray, List.set_cons_zero, List.set_cons_succ]))
        (refine q_call (v := vcV (plusV x k)) 23 #[vcV x, .int .u32 (k : Nat)] (by rfl) (fun w hC => by go_simp) (fun w hC => calls_in (plus_any x k w hx kl) (fun w' hb => hC.next hb)) ?_; (try simp only [Act.put, List.getElem_toArray, List.getElem_cons_succ, List.getElem_cons_zero, List.setIfInBounds_toArray, List.set_cons_zero, List.set_cons_succ]))
        (refine q_val (v := ?_) (by rfl) ?_ ?_; rotate_left; (· (intro w hC; have hq := hC.ky.all; go_simp; try with_reducible rfl)); (try simp only [Act.put, List.getElem_toArray, List.getElem_cons_succ, List.getElem_cons_zero, List.setIfInBounds_toArray, List.set_cons_zero, List.set_cons_succ]))
        (refine q_val (v := ?_) (by rfl) ?_ ?_; rotate_left; (· (intro w hC; go_simp; try with_reducible rfl)); (try simp only [Act.put, List.getElem_toArray, List.getElem_cons_succ, List.getElem_cons_zero, List.setIfInBounds_toArray, List.set_cons_zero, List.set_cons_succ]))
        (refine q_call (v := vcV (plusV y k)) 23 #[vcV y, .int .u32 (k : Nat)] (by rfl) (fun w hC => by go_simp) (fun w hC => calls_in (plus_any y k w hy kl) (fun w' hb => hC.next hb)) ?_; (try simp only [Act.put, List.getElem_toArray, List.getElem_cons_succ, List.getElem_cons_zero, List.setIfInBounds_toArray, List.set_cons_zero, List.set_cons_succ]))
        (refine q_call (v := .bool true) 21 #[vcV (plusV x k), vcV (plusV y k)] (by rfl) (fun w hC => by go_simp) (fun w hC => calls_in (better_is (plusV x k) (plusV y k) w (by rw [LP.out]; exact t1)) (fun w' hb => hC.next hb)) ?_; (try simp only [Act.put, List.getElem_toArray, List.getElem_cons_succ, List.getElem_cons_zero, List.setIfInBounds_toArray, List.set_cons_zero, List.set_cons_succ]))
        (refine q_val (v := ?_) (by rfl) ?_ ?_; rotate_left; (· (intro w hC; have hq := hC.kx.all; go_simp; try with_reducible rfl)); (try simp only [Act.put, List.getElem_toArray, List.getElem_cons_succ, List.getElem_cons_zero, List.setIfInBounds_toArray, List.set_cons_zero, List.set_cons_succ]))
        (refine q_val (v := ?_) (by rfl) ?_ ?_; rotate_left; (· (intro w hC; have hq := hC.ky.all; go_simp; try with_reducible rfl)); (try simp only [Act.put, List.getElem_toArray, List.getElem_cons_succ, List.getElem_cons_zero, List.setIfInBounds_toArray, List.set_cons_zero, List.set_cons_succ]))
        (refine q_call (v := .bool true) 21 #[vcV x, vcV y] (by rfl) (fun w hC => by go_simp) (fun w hC => calls_in (better_is x y w t1) (fun w' hb => hC.next hb)) ?_; (try simp only [Act.put, List.getElem_toArray, List.getElem_cons_succ, List.getElem_cons_zero, List.setIfInBounds_toArray, List.set_cons_zero, List.set_cons_succ]))
        (refine q_val (v := ?_) (by rfl) ?_ ?_; rotate_left; (· (intro w hC; go_simp; try with_reducible rfl)); (try simp only [Act.put, List.getElem_toArray, List.getElem_cons_succ, List.getElem_cons_zero, List.setIfInBounds_toArray, List.set_cons_zero, List.set_cons_succ]))
        (refine q_val (v := ?_) (by rfl) ?_ ?_; rotate_left; (· (intro w hC; go_simp; try with_reducible rfl)); (try simp only [Act.put, List.getElem_toArray, List.getElem_cons_succ, List.getElem_cons_zero, List.setIfInBounds_toArray, List.set_cons_zero, List.set_cons_succ]))
        (refine q_val (v := ?_) (by rfl) ?_ ?_; rotate_left; (· (intro w hC; go_simp; try with_reducible rfl)); (try simp only [Act.put, List.getElem_toArray, List.getElem_cons_succ, List.getElem_cons_zero, List.setIfInBounds_toArray, List.set_cons_zero, List.set_cons_succ]))
        (refine q_val (v := ?_) (by rfl) ?_ ?_; rotate_left; (· (intro w hC; have hq := hC.kx.all; go_simp; try with_reducible rfl)); (try simp only [Act.put, List.getElem_toArray, List.getElem_cons_succ, List.getElem_cons_zero, List.setIfInBounds_toArray, List.set_cons_zero, List.set_cons_succ]))
        (refine q_call (v := vcV (plusV x 1)) 23 #[vcV x, .int .u32 (1 : Nat)] (by rfl) (fun w hC => by go_simp) (fun w hC => calls_in (plus_any x 1 w hx (by omega)) (fun w' hb => hC.next hb)) ?_; (try simp only [Act.put, List.getElem_toArray, List.getElem_cons_succ, List.getElem_cons_zero, List.setIfInBounds_toArray, List.set_cons_zero, List.set_cons_succ]))
        (refine q_val (v := ?_) (by rfl) ?_ ?_; rotate_left; (· (intro w hC; have hq := hC.kx.all; go_simp; try with_reducible rfl)); (try simp only [Act.put, List.getElem_toArray, List.getElem_cons_succ, List.getElem_cons_zero, List.setIfInBounds_toArray, List.set_cons_zero, List.set_cons_succ]))
        (refine q_call (v := .bool false) 21 #[vcV (plusV x 1), vcV x] (by rfl) (fun w hC => by go_simp) (fun w hC => calls_in (better_is (plusV x 1) x w LM.out) (fun w' hb => hC.next hb)) ?_; (try simp only [Act.put, List.getElem_toArray, List.getElem_cons_succ, List.getElem_cons_zero, List.setIfInBounds_toArray, List.set_cons_zero, List.set_cons_succ]))
        (refine q_val (v := ?_) (by rfl) ?_ ?_; rotate_left; (· (intro w hC; go_simp; try with_reducible rfl)); (try simp only [Act.put, List.getElem_toArray, List.getElem_cons_succ, List.getElem_cons_zero, List.setIfInBounds_toArray, List.set_cons_zero, List.set_cons_succ]))
        (refine q_val (v := ?_) (by rfl) ?_ ?_; rotate_left; (· (intro w hC; go_simp; try with_reducible rfl)); (try simp only [Act.put, List.getElem_toArray, List.getElem_cons_succ, List.getElem_cons_zero, List.setIfInBounds_toArray, List.set_cons_zero, List.set_cons_succ]))
        (refine q_val (v := ?_) (by rfl) ?_ ?_; rotate_left; (· (intro w hC; go_simp; try with_reducible rfl)); (try simp only [Act.put, List.getElem_toArray, List.getElem_cons_succ, List.getElem_cons_zero, List.setIfInBounds_toArray, List.set_cons_zero, List.set_cons_succ]))
        refine wpQuiet_nil ?_
        intro w' hC
        go_wp2_with fail
        go_ret
        exact ⟨rfl, hC.below⟩
    · go_wp2_with fail
      refine (better_is x y _ t1).mono ?_
      rintro e w2 ⟨rfl, hb⟩
      have hC1 := hC0.next hb
      clear hb hC0 h1 h2
      have h1 := hC1.kx.all
      have h2 := hC1.ky.all
      go_wp2_with fail
      refine (better_is y x _ t2).mono ?_
      rintro e w3 ⟨rfl, hb⟩
      have hC2 := hC1.next hb
      clear hb hC1 h1 h2
      have h1 := hC2.kx.all
      have h2 := hC2.ky.all
      rw [t3] at heq
      go_upto_region 12 with fail
      clear h1 h2 hmin heq
      refine wp_region_quiet (C := LnB w c d f x y z) (by kernel_rfl) (by kernel_rfl) hC2.drew ?_
      (refine q_val (v := ?_) (by rfl) ?_ ?_; rotate_left; (· (intro w hC; go_simp; try with_reducible rfl)); (try simp only [Act.put, List.getElem_toArray, List.getElem_cons_succ, List.getElem_cons_zero, List.setIfInBounds_toArray, List.set_cons_zero, List.set_cons_succ]))
      (refine q_val (v := ?_) (by rfl) ?_ ?_; rotate_left; (· (intro w hC; go_simp; try with_reducible rfl)); (try simp only [Act.put, List.getElem_toArray, List.getElem_cons_succ, List.getElem_cons_zero, List.setIfInBounds_toArray, List.set_cons_zero, List.set_cons_succ]))
      (refine q_val (v := ?_) (by rfl) ?_ ?_; rotate_left; (· (intro w hC; go_simp; try with_reducible rfl)); (try simp only [Act.put, List.getElem_toArray, List.getElem_cons_succ, List.getElem_cons_zero, List.setIfInBounds_toArray, List.set_cons_zero, List.set_cons_succ]))
      (refine q_val (v := ?_) (by rfl) ?_ ?_; rotate_left; (· (intro w hC; have hq := hC.kx.all; go_simp; try with_reducible rfl)); (try simp only [Act.put, List.getElem_toArray, List.getElem_cons_succ, List.getElem_cons_zero, List.setIfInBounds_toArray, List.set_cons_zero, List.set_cons_succ]))
      (refine q_val (v := ?_) (by rfl) ?_ ?_; rotate_left; (· (intro w hC; have hq := hC.ky.all; go_simp; try with_reducible rfl)); (try simp only [Act.put, List.getElem_toArray, List.getElem_cons_succ, List.getElem_cons_zero, List.setIfInBounds_toArray, List.set_cons_zero, List.set_cons_succ]))
      (refine q_call (v := .bool false) 21 #[vcV x, vcV y] (by rfl) (fun w hC => by go_simp) (fun w hC => calls_in (better_is x y w t1) (fun w' hb => hC.next hb)) ?_; (try simp only [Act.put, List.getElem_toArray, List.getElem_cons_succ, List.getElem_cons_zero, List.setIfInBounds_toArray, List.set_cons_zero, List.set_cons_succ]))
      (refine q_val (v := ?_) (by rfl) ?_ ?_; rotate_left; (· (intro w hC; go_simp; try with_reducible rfl)); (try simp only [Act.put, List.getElem_toArray, List.getElem_cons_succ, List.getElem_cons_zero, List.setIfInBounds_toArray, List.set_cons_zero, List.set_cons_succ]))
      (refine q_val (v := ?_) (by rfl) ?_ ?_; rotate_left; (· (intro w hC; go_simp; try with_reducible rfl)); (try simp only [Act.put, List.getElem_toArray, List.getElem_cons_succ, List.getElem_cons_zero, List.setIfInBounds_toArray, List.set_cons_zero, List.set_cons_succ]))
      (refine q_skip (by rfl) ?_; (try simp only [Act.put, List.getElem_toArray, List.getElem_cons_succ, List.getElem_cons_zero, List.setIfInBounds_toArray, List.set_cons_zero, List.set_cons_succ]))
      (refine q_skip (by rfl) ?_; (try simp only [Act.put, List.getElem_toArray, List.getElem_cons_succ, List.getElem_cons_zero, List.setIfInBounds_toArray, List.set_cons_zero, List.set_cons_succ]))
      (refine q_skip (by rfl) ?_; (try simp only [Act.put, List.getElem_toArray, List.getElem_cons_succ, List.getElem_cons_zero, List.setIfInBounds_toArray, List.set_cons_zero, List.set_cons_succ]))
      (refine q_skip (by rfl) ?_; (try simp only [Act.put, List.getElem_toArray, List.getElem_cons_succ, List.getElem_cons_zero, List.setIfInBounds_toArray, List.set_cons_zero, List.set_cons_succ]))
      (refine q_val (v := ?_) (by rfl) ?_ ?_; rotate_left; (· (intro w hC; go_simp; try with_reducible rfl)); (try simp only [Act.put, List.getElem_toArray, List.getElem_cons_succ, List.getElem_cons_zero, List.setIfInBounds_toArray, List.set_cons_zero, List.set_cons_succ]))
      (refine q_val (v := ?_) (by rfl) ?_ ?_; rotate_left; (· (intro w hC; go_simp; try with_reducible rfl)); (try simp only [Act.put, List.getElem_toArray, List.getElem_cons_succ, List.getElem_cons_zero, List.setIfInBounds_toArray, List.set_cons_zero, List.set_cons_succ]))
      (refine q_skip (by rfl) ?_; (try simp only [Act.put, List.getElem_toArray, List.getElem_cons_succ, List.getElem_cons_zero, List.setIfInBounds_toArray, List.set_cons_zero, List.set_cons_succ]))
      (refine q_skip (by rfl) ?_; (try simp only [Act.put, List.getElem_toArray, List.getElem_cons_succ, List.getElem_cons_zero, List.setIfInBounds_toArray, List.set_cons_zero, List.set_cons_succ]))
      (refine q_skip (by rfl) ?_; (try simp only [Act.put, List.getElem_toArray, List.getElem_cons_succ, List.getElem_cons_zero, List.setIfInBounds_toArray, List.set_cons_zero, List.set_cons_succ]))
      (refine q_val (v := ?_) (by rfl) ?_ ?_; rotate_left; (· (intro w hC; go_simp; try with_reducible rfl)); (try simp only [Act.put, List.getElem_toArray, List.getElem_cons_succ, List.getElem_cons_zero, List.setIfInBounds_toArray, List.set_cons_zero, List.set_cons_succ]))
      (refine q_val (v := ?_) (by rfl) ?_ ?_; rotate_left; (· (intro w hC; go_simp; try with_reducible rfl)); (try simp only [Act.put, List.getElem_toArray, List.getElem_cons_succ, List.getElem_cons_zero, List.setIfInBounds_toArray, List.set_cons_zero, List.set_cons_succ]))
      (refine q_val (v := ?_) (by rfl) ?_ ?_; rotate_left; (· (intro w hC; go_simp; try with_reducible rfl)); (try simp only [Act.put, List.getElem_toArray, List.getElem_cons_succ, List.getElem_cons_zero, List.setIfInBounds_toArray, List.set_cons_zero, List.set_cons_succ]))
      (refine q_val (v := ?_) (by rfl) ?_ ?_; rotate_left; (· (intro w hC; have hq := hC.kx.all; go_simp; try with_reducible rfl)); (try simp only [Act.put, List.getElem_toArray, List.getElem_cons_succ, List.getElem_cons_zero, List.setIfInBounds_toArray, List.set_cons_zero, List.set_cons_succ]))
      (refine q_val (v := ?_) (by rfl) ?_ ?_; rotate_left; (· (intro w hC; go_simp; try with_reducible rfl)); (try simp only [Act.put, List.getElem_toArray, List.getElem_cons_succ, List.getElem_cons_zero, List.setIfInBounds_toArray, List.set_cons_zero, List.set_cons_succ]))
      (refine q_call (v := vcV (plusV x k)) 23 #[vcV x, .int .u32 (k : Nat)] (by rfl) (fun w hC => by go_simp) (fun w hC => calls_in (plus_any x k w hx kl) (fun w' hb => hC.next hb)) ?_; (try simp only [Act.put, List.getElem_toArray, List.getElem_cons_succ, List.getElem_cons_zero, List.setIfInBounds_toArray, List.set_cons_zero, List.set_cons_succ]))
      (refine q_val (v := ?_) (by rfl) ?_ ?_; rotate_left; (· (intro w hC; have hq := hC.ky.all; go_simp; try with_reducible rfl)); (try simp only [Act.put, List.getElem_toArray, List.getElem_cons_succ, List.getElem_cons_zero, List.setIfInBounds_toArray, List.set_cons_zero, List.set_cons_succ]))
      (refine q_val (v := ?_) (by rfl) ?_ ?_; rotate_left; (· (intro w hC; go_simp; try with_reducible rfl)); (try simp only [Act.put, List.getElem_toArray, List.getElem_cons_succ, List.getElem_cons_zero, List.setIfInBounds_toArray, List.set_cons_zero, List.set_cons_succ]))
      (refine q_call (v := vcV (plusV y k)) 23 #[vcV y, .int .u32 (k : Nat)] (by rfl) (fun w hC => by go_simp) (fun w hC => calls_in (plus_any y k w hy kl) (fun w' hb => hC.next hb)) ?_; (try simp only [Act.put, List.getElem_toArray, List.getElem_cons_succ, List.getElem_cons_zero, List.setIfInBounds_toArray, List.set_cons_zero, List.set_cons_succ]))
      (refine q_call (v := .bool false) 21 #[vcV (plusV x k), vcV (plusV y k)] (by rfl) (fun w hC => by go_simp) (fun w hC => calls_in (better_is (plusV x k) (plusV y k) w (by rw [LP.out]; exact t1)) (fun w' hb => hC.next hb)) ?_; (try simp only [Act.put, List.getElem_toArray, List.getElem_cons_succ, List.getElem_cons_zero, List.setIfInBounds_toArray, List.set_cons_zero, List.set_cons_succ]))
      (refine q_val (v := ?_) (by rfl) ?_ ?_; rotate_left; (· (intro w hC; have hq := hC.kx.all; go_simp; try with_reducible rfl)); (try simp only [Act.put, List.getElem_toArray, List.getElem_cons_succ, List.getElem_cons_zero, List.setIfInBounds_toArray, List.set_cons_zero, List.set_cons_succ]))
      (refine q_val (v := ?_) (by rfl) ?_ ?_; rotate_left; (· (intro w hC; have hq := hC.ky.all; go_simp; try with_reducible rfl)); (try simp only [Act.put, List.getElem_toArray, List.getElem_cons_succ, List.getElem_cons_zero, List.setIfInBounds_toArray, List.set_cons_zero, List.set_cons_succ]))
      (refine q_call (v := .bool false) 21 #[vcV x, vcV y] (by rfl) (fun w hC => by go_simp) (fun w hC => calls_in (better_is x y w t1) (fun w' hb => hC.next hb)) ?_; (try simp only [Act.put, List.getElem_toArray, List.getElem_cons_succ, List.getElem_cons_zero, List.setIfInBounds_toArray, List.set_cons_zero, List.set_cons_succ]))
      (refine q_val (v := ?_) (by rfl) ?_ ?_; rotate_left; (· (intro w hC; go_simp; try with_reducible rfl)); (try simp only [Act.put, List.getElem_toArray, List.getElem_cons_succ, List.getElem_cons_zero, List.setIfInBounds_toArray, List.set_cons_zero, List.set_cons_succ]))
      (refine q_val (v := ?_) (by rfl) ?_ ?_; rotate_left; (· (intro w hC; go_simp; try with_reducible rfl)); (try simp only [Act.put, List.getElem_toArray, List.getElem_cons_succ, List.getElem_cons_zero, List.setIfInBounds_toArray, List.set_cons_zero, List.set_cons_succ]))
      (refine q_val (v := ?_) (by rfl) ?_ ?_; rotate_left; (· (intro w hC; go_simp; try with_reducible rfl)); (try simp only [Act.put, List.getElem_toArray, List.getElem_cons_succ, List.getElem_cons_zero, List.setIfInBounds_toArray, List.set_cons_zero, List.set_cons_succ]))
      (refine q_val (v := ?_) (by rfl) ?_ ?_; rotate_left; (· (intro w hC; have hq := hC.kx.all; go_simp; try with_reducible rfl)); (try simp only [Act.put, List.getElem_toArray, List.getElem_cons_succ, List.getElem_cons_zero, List.setIfInBounds_toArray, List.set_cons_zero, List.set_cons_succ]))
      (refine q_call (v := vcV (plusV x 1)) 23 #[vcV x, .int .u32 (1 : Nat)] (by rfl) (fun w hC => by go_simp) (fun w hC => calls_in (plus_any x 1 w hx (by omega)) (fun w' hb => hC.next hb)) ?_; (try simp only [Act.put, List.getElem_toArray, List.getElem_cons_succ, List.getElem_cons_zero, List.setIfInBounds_toArray, List.set_cons_zero, List.set_cons_succ]))
      (refine q_val (v := ?_) (by rfl) ?_ ?_; rotate_left; (· (intro w hC; have hq := hC.kx.all; go_simp; try with_reducible rfl)); (try simp only [Act.put, List.getElem_toArray, List.getElem_cons_succ, List.getElem_cons_zero, List.setIfInBounds_toArray, List.set_cons_zero, List.set_cons_succ]))
      (refine q_call (v := .bool false) 21 #[vcV (plusV x 1), vcV x] (by rfl) (fun w hC => by go_simp) (fun w hC => calls_in (better_is (plusV x 1) x w LM.out) (fun w' hb => hC.next hb)) ?_; (try simp only [Act.put, List.getElem_toArray, List.getElem_cons_succ, List.getElem_cons_zero, List.setIfInBounds_toArray, List.set_cons_zero, List.set_cons_succ]))
      (refine q_val (v := ?_) (by rfl) ?_ ?_; rotate_left; (· (intro w hC; go_simp; try with_reducible rfl)); (try simp only [Act.put, List.getElem_toArray, List.getElem_cons_succ, List.getElem_cons_zero, List.setIfInBounds_toArray, List.set_cons_zero, List.set_cons_succ]))
      (refine q_val (v := ?_) (by rfl) ?_ ?_; rotate_left; (· (intro w hC; go_simp; try with_reducible rfl)); (try simp only [Act.put, List.getElem_toArray, List.getElem_cons_succ, List.getElem_cons_zero, List.setIfInBounds_toArray, List.set_cons_zero, List.set_cons_succ]))
      (refine q_val (v := ?_) (by rfl) ?_ ?_; rotate_left; (· (intro w hC; go_simp; try with_reducible rfl)); (try simp only [Act.put, List.getElem_toArray, List.getElem_cons_succ, List.getElem_cons_zero, List.setIfInBounds_toArray, List.set_cons_zero, List.set_cons_succ]))
      refine wpQuiet_nil ?_
      intro w' hC
      go_wp2_with fail
      go_ret
      exact ⟨rfl, hC.below⟩
    · go_wp2_with fail
      refine (better_is x y _ t1).mono ?_
      rintro e w2 ⟨rfl, hb⟩
      have hC1 := hC0.next hb
      clear hb hC0 h1 h2
      have h1 := hC1.kx.all
      have h2 := hC1.ky.all
      go_wp2_with fail
      refine (better_is y x _ t2).mono ?_
      rintro e w3 ⟨rfl, hb⟩
      have hC2 := hC1.next hb
      clear hb hC1 h1 h2
      have h1 := hC2.kx.all
      have h2 := hC2.ky.all
      rw [t3] at heq
      go_upto_region 12 with fail
      clear h1 h2 hmin heq
      refine wp_region_quiet (C := LnB w c d f x y z) (by kernel_rfl) (by kernel_rfl) hC2.drew ?_
      (refine q_val (v := ?_) (by rfl) ?_ ?_; rotate_left; (· (intro w hC; go_simp; try with_reducible rfl)); (try simp only [Act.put, List.getElem_toArray, List.getElem_cons_succ, List.getElem_cons_zero, List.setIfInBounds_toArray, List.set_cons_zero, List.set_cons_succ]))
      (refine q_val (v := ?_) (by rfl) ?_ ?_; rotate_left; (· (intro w hC; go_simp; try with_reducible rfl)); (try simp only [Act.put, List.getElem_toArray, List.getElem_cons_succ, List.getElem_cons_zero, List.setIfInBounds_toArray, List.set_cons_zero, List.set_cons_succ]))
      (refine q_val (v := ?_) (by rfl) ?_ ?_; rotate_left; (· (intro w hC; go_simp; try with_reducible rfl)); (try simp only [Act.put, List.getElem_toArray, List.getElem_cons_succ, List.getElem_cons_zero, List.setIfInBounds_toArray, List.set_cons_zero, List.set_cons_succ]))
      (refine q_val (v := ?_) (by rfl) ?_ ?_; rotate_left; (· (intro w hC; have hq := hC.kx.all; go_simp; try with_reducible rfl)); (try simp only [Act.put, List.getElem_toArray, List.getElem_cons_succ, List.getElem_cons_zero, List.setIfInBounds_toArray, List.set_cons_zero, List.set_cons_succ]))
      (refine q_val (v := ?_) (by rfl) ?_ ?_; rotate_left; (· (intro w hC; have hq := hC.ky.all; go_simp; try with_reducible rfl)); (try simp only [Act.put, List.getElem_toArray, List.getElem_cons_succ, List.getElem_cons_zero, List.setIfInBounds_toArray, List.set_cons_zero, List.set_cons_succ]))
      (refine q_call (v := .bool false) 21 #[vcV x, vcV y] (by rfl) (fun w hC => by go_simp) (fun w hC => calls_in (better_is x y w t1) (fun w' hb => hC.next hb)) ?_; (try simp only [Act.put, List.getElem_toArray, List.getElem_cons_succ, List.getElem_cons_zero, List.setIfInBounds_toArray, List.set_cons_zero, List.set_cons_succ]))
      (refine q_val (v := ?_) (by rfl) ?_ ?_; rotate_left; (· (intro w hC; go_simp; try with_reducible rfl)); (try simp only [Act.put, List.getElem_toArray, List.getElem_cons_succ, List.getElem_cons_zero, List.setIfInBounds_toArray, List.set_cons_zero, List.set_cons_succ]))
      (refine q_val (v := ?_) (by rfl) ?_ ?_; rotate_left; (· (intro w hC; go_simp; try with_reducible rfl)); (try simp only [Act.put, List.getElem_toArray, List.getElem_cons_succ, List.getElem_cons_zero, List.setIfInBounds_toArray, List.set_cons_zero, List.set_cons_succ]))
      (refine q_skip (by rfl) ?_; (try simp only [Act.put, List.getElem_toArray, List.getElem_cons_succ, List.getElem_cons_zero, List.setIfInBounds_toArray, List.set_cons_zero, List.set_cons_succ]))
      (refine q_skip (by rfl) ?_; (try simp only [Act.put, List.getElem_toArray, List.getElem_cons_succ, List.getElem_cons_zero, List.setIfInBounds_toArray, List.set_cons_zero, List.set_cons_succ]))
      (refine q_skip (by rfl) ?_; (try simp only [Act.put, List.getElem_toArray, List.getElem_cons_succ, List.getElem_cons_zero, List.setIfInBounds_toArray, List.set_cons_zero, List.set_cons_succ]))
      (refine q_skip (by rfl) ?_; (try simp only [Act.put, List.getElem_toArray, List.getElem_cons_succ, List.getElem_cons_zero, List.setIfInBounds_toArray, List.set_cons_zero, List.set_cons_succ]))
      (refine q_val (v := ?_) (by rfl) ?_ ?_; rotate_left; (· (intro w hC; go_simp; try with_reducible rfl)); (try simp only [Act.put, List.getElem_toArray, List.getElem_cons_succ, List.getElem_cons_zero, List.setIfInBounds_toArray, List.set_cons_zero, List.set_cons_succ]))
      (refine q_val (v := ?_) (by rfl) ?_ ?_; rotate_left; (· (intro w hC; go_simp; try with_reducible rfl)); (try simp only [Act.put, List.getElem_toArray, List.getElem_cons_succ, List.getElem_cons_zero, List.setIfInBounds_toArray, List.set_cons_zero, List.set_cons_succ]))
      (refine q_skip (by rfl) ?_; (try simp only [Act.put, List.getElem_toArray, List.getElem_cons_succ, List.getElem_cons_zero, List.setIfInBounds_toArray, List.set_cons_zero, List.set_cons_succ]))
      (refine q_skip (by rfl) ?_; (try simp only [Act.put, List.getElem_toArray, List.getElem_cons_succ, List.getElem_cons_zero, List.setIfInBounds_toArray, List.set_cons_zero, List.set_cons_succ]))
      (refine q_skip (by rfl) ?_; (try simp only [Act.put, List.getElem_toArray, List.getElem_cons_succ, List.getElem_cons_zero, List.setIfInBounds_toArray, List.set_cons_zero, List.set_cons_succ]))
      (refine q_val (v := ?_) (by rfl) ?_ ?_; rotate_left; (· (intro w hC; go_simp; try with_reducible rfl)); (try simp only [Act.put, List.getElem_toArray, List.getElem_cons_succ, List.getElem_cons_zero, List.setIfInBounds_toArray, List.set_cons_zero, List.set_cons_succ]))
      (refine q_val (v := ?_) (by rfl) ?_ ?_; rotate_left; (· (intro w hC; go_simp; try with_reducible rfl)); (try simp only [Act.put, List.getElem_toArray, List.getElem_cons_succ, List.getElem_cons_zero, List.setIfInBounds_toArray, List.set_cons_zero, List.set_cons_succ]))
      (refine q_val (v := ?_) (by rfl) ?_ ?_; rotate_left; (· (intro w hC; go_simp; try with_reducible rfl)); (try simp only [Act.put, List.getElem_toArray, List.getElem_cons_succ, List.getElem_cons_zero, List.setIfInBounds_toArray, List.set_cons_zero, List.set_cons_succ]))
      (refine q_val (v := ?_) (by rfl) ?_ ?_; rotate_left; (· (intro w hC; have hq := hC.kx.all; go_simp; try with_reducible rfl)); (try simp only [Act.put, List.getElem_toArray, List.getElem_cons_succ, List.getElem_cons_zero, List.setIfInBounds_toArray, List.set_cons_zero, List.set_cons_succ]))
      (refine q_val (v := ?_) (by rfl) ?_ ?_; rotate_left; (· (intro w hC; go_simp; try with_reducible rfl)); (try simp only [Act.put, List.getElem_toArray, List.getElem_cons_succ, List.getElem_cons_zero, List.setIfInBounds_toArray, List.set_cons_zero, List.set_cons_succ]))
      (refine q_call (v := vcV (plusV x k)) 23 #[vcV x, .int .u32 (k : Nat)] (by rfl) (fun w hC => by go_simp) (fun w hC => calls_in (plus_any x k w hx kl) (fun w' hb => hC.next hb)) ?_; (try simp only [Act.put, List.getElem_toArray, List.getElem_cons_succ, List.getElem_cons_zero, List.setIfInBounds_toArray, List.set_cons_zero, List.set_cons_succ]))
      (refine q_val (v := ?_) (by rfl) ?_ ?_; rotate_left; (· (intro w hC; have hq := hC.ky.all; go_simp; try with_reducible rfl)); (try simp only [Act.put, List.getElem_toArray, List.getElem_cons_succ, List.getElem_cons_zero, List.setIfInBounds_toArray, List.set_cons_zero, List.set_cons_succ]))
      (refine q_val (v := ?_) (by rfl) ?_ ?_; rotate_left; (· (intro w hC; go_simp; try with_reducible rfl)); (try simp only [Act.put, List.getElem_toArray, List.getElem_cons_succ, List.getElem_cons_zero, List.setIfInBounds_toArray, List.set_cons_zero, List.set_cons_succ]))
      (refine q_call (v := vcV (plusV y k)) 23 #[vcV y, .int .u32 (k : Nat)] (by rfl) (fun w hC => by go_simp) (fun w hC => calls_in (plus_any y k w hy kl) (fun w' hb => hC.next hb)) ?_; (try simp only [Act.put, List.getElem_toArray, List.getElem_cons_succ, List.getElem_cons_zero, List.setIfInBounds_toArray, List.set_cons_zero, List.set_cons_succ]))
      (refine q_call (v := .bool false) 21 #[vcV (plusV x k), vcV (plusV y k)] (by rfl) (fun w hC => by go_simp) (fun w hC => calls_in (better_is (plusV x k) (plusV y k) w (by rw [LP.out]; exact t1)) (fun w' hb => hC.next hb)) ?_; (try simp only [Act.put, List.getElem_toArray, List.getElem_cons_succ, List.getElem_cons_zero, List.setIfInBounds_toArray, List.set_cons_zero, List.set_cons_succ]))
      (refine q_val (v := ?_) (by rfl) ?_ ?_; rotate_left; (· (intro w hC; have hq := hC.kx.all; go_simp; try with_reducible rfl)); (try simp only [Act.put, List.getElem_toArray, List.getElem_cons_succ, List.getElem_cons_zero, List.setIfInBounds_toArray, List.set_cons_zero, List.set_cons_succ]))
      (refine q_val (v := ?_) (by rfl) ?_ ?_; rotate_left; (· (intro w hC; have hq := hC.ky.all; go_simp; try with_reducible rfl)); (try simp only [Act.put, List.getElem_toArray, List.getElem_cons_succ, List.getElem_cons_zero, List.setIfInBounds_toArray, List.set_cons_zero, List.set_cons_succ]))
      (refine q_call (v := .bool false) 21 #[vcV x, vcV y] (by rfl) (fun w hC => by go_simp) (fun w hC => calls_in (better_is x y w t1) (fun w' hb => hC.next hb)) ?_; (try simp only [Act.put, List.getElem_toArray, List.getElem_cons_succ, List.getElem_cons_zero, List.setIfInBounds_toArray, List.set_cons_zero, List.set_cons_succ]))
      (refine q_val (v := ?_) (by rfl) ?_ ?_; rotate_left; (· (intro w hC; go_simp; try with_reducible rfl)); (try simp only [Act.put, List.getElem_toArray, List.getElem_cons_succ, List.getElem_cons_zero, List.setIfInBounds_toArray, List.set_cons_zero, List.set_cons_succ]))
      (refine q_val (v := ?_) (by rfl) ?_ ?_; rotate_left; (· (intro w hC; go_simp; try with_reducible rfl)); (try simp only [Act.put, List.getElem_toArray, List.getElem_cons_succ, List.getElem_cons_zero, List.setIfInBounds_toArray, List.set_cons_zero, List.set_cons_succ]))
      (refine q_val (v := ?_) (by rfl) ?_ ?_; rotate_left; (· (intro w hC; go_simp; try with_reducible rfl)); (try simp only [Act.put, List.getElem_toArray, List.getElem_cons_succ, List.getElem_cons_zero, List.setIfInBounds_toArray, List.set_cons_zero, List.set_cons_succ]))
      (refine q_val (v := ?_) (by rfl) ?_ ?_; rotate_left; (· (intro w hC; have hq := hC.kx.all; go_simp; try with_reducible rfl)); (try simp only [Act.put, List.getElem_toArray, List.getElem_cons_succ, List.getElem_cons_zero, List.setIfInBounds_toArray, List.set_cons_zero, List.set_cons_succ]))
      (refine q_call (v := vcV (plusV x 1)) 23 #[vcV x, .int .u32 (1 : Nat)] (by rfl) (fun w hC => by go_simp) (fun w hC => calls_in (plus_any x 1 w hx (by omega)) (fun w' hb => hC.next hb)) ?_; (try simp only [Act.put, List.getElem_toArray, List.getElem_cons_succ, List.getElem_cons_zero, List.setIfInBounds_toArray, List.set_cons_zero, List.set_cons_succ]))
      (refine q_val (v := ?_) (by rfl) ?_ ?_; rotate_left; (· (intro w hC; have hq := hC.kx.all; go_simp; try with_reducible rfl)); (try simp only [Act.put, List.getElem_toArray, List.getElem_cons_succ, List.getElem_cons_zero, List.setIfInBounds_toArray, List.set_cons_zero, List.set_cons_succ]))
      (refine q_call (v := .bool false) 21 #[vcV (plusV x 1), vcV x] (by rfl) (fun w hC => by go_simp) (fun w hC => calls_in (better_is (plusV x 1) x w LM.out) (fun w' hb => hC.next hb)) ?_; (try simp only [Act.put, List.getElem_toArray, List.getElem_cons_succ, List.getElem_cons_zero, List.setIfInBounds_toArray, List.set_cons_zero, List.set_cons_succ]))
      (refine q_val (v := ?_) (by rfl) ?_ ?_; rotate_left; (· (intro w hC; go_simp; try with_reducible rfl)); (try simp only [Act.put, List.getElem_toArray, List.getElem_cons_succ, List.getElem_cons_zero, List.setIfInBounds_toArray, List.set_cons_zero, List.set_cons_succ]))
      (refine q_val (v := ?_) (by rfl) ?_ ?_; rotate_left; (· (intro w hC; go_simp; try with_reducible rfl)); (try simp only [Act.put, List.getElem_toArray, List.getElem_cons_succ, List.getElem_cons_zero, List.setIfInBounds_toArray, List.set_cons_zero, List.set_cons_succ]))
      (refine q_val (v := ?_) (by rfl) ?_ ?_; rotate_left; (· (intro w hC; go_simp; try with_reducible rfl)); (try simp only [Act.put, List.getElem_toArray, List.getElem_cons_succ, List.getElem_cons_zero, List.setIfInBounds_toArray, List.set_cons_zero, List.set_cons_succ]))
      refine wpQuiet_nil ?_
      intro w' hC
      go_wp2_with fail
      go_ret
      exact ⟨rfl, hC.below⟩
end Go.Proofs.Ytkohnleeiajiiaa
