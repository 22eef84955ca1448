/- The document's own Set of layer 10: into none; any. -/
import Derived.Test.YtilklfmcdgggfaaS10c
namespace Go.Proofs.Ytilklfmcdgggfaa
open Go.RowKit
attribute [local irreducible] wpQuiet
set_option linter.unusedSimpArgs false
set_option linter.unusedVariables false

/-- The slots, while the region runs. -/
structure Ins10nS (bx : Nat) (x : Se) (f1 f2 f6 f7 f8 f10 f11 f12 f13 f14 f15 f16 f17 f18 f19 f20 f21 f22 f23 f24 f25 f26 f27 f28 f29 f30 f31 f32 f33 f34 f35 f36 f37 f38 f39 f40 f41 f42 f43 f44 f45 f46 f47 f48 f49 f50 f51 f52 f53 f54 f55 f56 f57 f58 f59 f60 f61 f62 f63 f64 f65 f66 f67 f68 f69 f70 f71 f72 f73 : Value) (L : Nat → Bool) (v4 v5 v74 v75 v76 v77 v78 v79 v80 v81 v82 v83 v84 v85 : Value) : Prop where
  e75 : L 1 = true → v75 = .slice none 0 0
  e76 : L 2 = true → v76 = .int .i64 0
  e77 : L 3 = true → v77 = .slice none 0 0
  e79 : L 5 = true → v79 = .agg (seA x)
  e82 : L 8 = true → v82 = .slice none 0 0
  e83 : L 9 = true → v83 = .int .i64 0
  e84 : L 10 = true → v84 = .slice none 0 0
  e5 : L 13 = true → v5 = .int .i64 0
  e4 : L 12 = true → v4 = v85 ∧ L 11 = true
abbrev Ins10nF (bx : Nat) (x : Se) (f1 f2 f6 f7 f8 f10 f11 f12 f13 f14 f15 f16 f17 f18 f19 f20 f21 f22 f23 f24 f25 f26 f27 f28 f29 f30 f31 f32 f33 f34 f35 f36 f37 f38 f39 f40 f41 f42 f43 f44 f45 f46 f47 f48 f49 f50 f51 f52 f53 f54 f55 f56 f57 f58 f59 f60 f61 f62 f63 f64 f65 f66 f67 f68 f69 f70 f71 f72 f73 : Value) (v4 v5 v74 v75 v76 v77 v78 v79 v80 v81 v82 v83 v84 v85 : Value) : Act := { tmps := #[.slice none 0 0, f1, f2, .pointer (some ⟨bx, 0, none⟩), v4, v5, f6, f7, f8, .int .i64 0, f10, f11, f12, f13, f14, f15, f16, f17, f18, f19, f20, f21, f22, f23, f24, f25, f26, f27, f28, f29, f30, f31, f32, f33, f34, f35, f36, f37, f38, f39, f40, f41, f42, f43, f44, f45, f46, f47, f48, f49, f50, f51, f52, f53, f54, f55, f56, f57, f58, f59, f60, f61, f62, f63, f64, f65, f66, f67, f68, f69, f70, f71, f72, f73, v74, v75, v76, v77, v78, v79, v80, v81, v82, v83, v84, v85], defers := [] }
def Ins10nI (bx : Nat) (x : Se) (f1 f2 f6 f7 f8 f10 f11 f12 f13 f14 f15 f16 f17 f18 f19 f20 f21 f22 f23 f24 f25 f26 f27 f28 f29 f30 f31 f32 f33 f34 f35 f36 f37 f38 f39 f40 f41 f42 f43 f44 f45 f46 f47 f48 f49 f50 f51 f52 f53 f54 f55 f56 f57 f58 f59 f60 f61 f62 f63 f64 f65 f66 f67 f68 f69 f70 f71 f72 f73 : Value) (w5 : World) (L : Nat → Bool) (a : Act) (w : World) : Prop :=
  ∃ v4 v5 v74 v75 v76 v77 v78 v79 v80 v81 v82 v83 v84 v85, a = Ins10nF bx x f1 f2 f6 f7 f8 f10 f11 f12 f13 f14 f15 f16 f17 f18 f19 f20 f21 f22 f23 f24 f25 f26 f27 f28 f29 f30 f31 f32 f33 f34 f35 f36 f37 f38 f39 f40 f41 f42 f43 f44 f45 f46 f47 f48 f49 f50 f51 f52 f53 f54 f55 f56 f57 f58 f59 f60 f61 f62 f63 f64 f65 f66 f67 f68 f69 f70 f71 f72 f73 v4 v5 v74 v75 v76 v77 v78 v79 v80 v81 v82 v83 v84 v85 ∧ Ins10nS bx x f1 f2 f6 f7 f8 f10 f11 f12 f13 f14 f15 f16 f17 f18 f19 f20 f21 f22 f23 f24 f25 f26 f27 f28 f29 f30 f31 f32 f33 f34 f35 f36 f37 f38 f39 f40 f41 f42 f43 f44 f45 f46 f47 f48 f49 f50 f51 f52 f53 f54 f55 f56 f57 f58 f59 f60 f61 f62 f63 f64 f65 f66 f67 f68 f69 f70 f71 f72 f73 L v4 v5 v74 v75 v76 v77 v78 v79 v80 v81 v82 v83 v84 v85 ∧ InsW 83 8 seC w5 [] x [] (L 0) (L 4) (L 6) (L 7) (L 11) v74 v78 v80 v81 v85 w

set_option maxRecDepth 100000 in
set_option maxHeartbeats 8000000 in
theorem rset10_nil (base : Nat) (x : Se) (w : World) (hx : seOk x) (hgd : ¬ goodS x ≠ 0) (hb : base ≤ w.heap.size) :
    Calls Try.prog 34 #[.slice none 0 0, seV x] w (OwnS w base (setS [] x) (setSE [] x)) := by
  obtain ⟨l, hl0⟩ : ∃ l : List Se, l = [] := ⟨_, rfl⟩
  have h : Own w base 83 8 seC (.slice none 0 0) l := by rw [hl0]; exact Own.nil _ _ _ _ _
  have hok : ∀ y ∈ l, seOk y := by rw [hl0]; simp
  have hl : l.length ≤ 100 := by rw [hl0]; simp
  have AT := Lib.hid (show atK seK (seK x) l = -1 by rw [hl0]; rfl)
  have R1 := Lib.hid (show setS l x = [] ++ [x] ++ [] by rw [hl0]; unfold setS; rw [if_neg hgd, if_neg (by simp [atK]), if_neg (by simp)]; rfl)
  have R2 := Lib.hid (show (0 : Int) = setSE l x by rw [hl0]; unfold setSE; rw [if_neg hgd, if_neg (by simp [atK]), if_neg (by simp)])
  have HL0 := Lib.hid hl0
  rw [← hl0]
  have HBASE := Lib.hid hb
  clear hl0 hb
  have hb0 := (Below.refl w.heap.size w).alloc (Nat.le_refl _) (.cells (seA x) 83)
  have S0 := Lib.hid (show Set10 w base (.slice none 0 0) l x (w.alloc (.cells (seA x) 83)) from ⟨Blk.new _ _ _, h.next hb0, hb0⟩)
  obtain ⟨G, hG⟩ : ∃ G, G = goodS x := ⟨_, rfl⟩
  rw [← hG] at hgd
  have HG := Lib.hid hG
  have G0 : G = 0 := by simpa using hgd
  subst G0
  have HOK := Lib.hid hok
  have HXO := Lib.hid hx
  have HL := Lib.hid hl
  clear h hb0 hG hgd hok hx hl
  go_enter Try.func34, Try.ntmps34
  go_upto_region 4 with (go_at_call 52; refine (rgood10 x _).mono ?_; rintro e w1 ⟨rfl, hb1⟩; rw [← HG.out])
  have S1 := Lib.hid (S0.out.next hb1)
  clear hb1 S0 HG
  have c0 := S1.out.cells 0 _ rfl
  have c1 := S1.out.cells 1 _ rfl
  have c2 := S1.out.cells 2 _ rfl
  have c3 := S1.out.cells 3 _ rfl
  have c4 := S1.out.cells 4 _ rfl
  have c5 := S1.out.cells 5 _ rfl
  have c6 := S1.out.cells 6 _ rfl
  have HA := Lib.hid (rat10_any base x.vid x.mac HXO.out (.slice none 0 0) l w1 S1.out.own HOK.out (by have := HL.out; omega))
  rw [show keyN x.vid x.mac = seK x from rfl, AT.out] at HA
  go_upto_region 5 with (go_at_call 32; refine HA.out.mono ?_; rintro e w2 ⟨rfl, hb2⟩)
  have S2 := Lib.hid (S1.out.next hb2)
  clear hb2 S1 c0 c1 c2 c3 c4 c5 c6 HA
  generalize hbx : w.heap.size = bx at *
  have HBX := Lib.hid hbx
  clear hbx
  go_upto_region 12 with fail
  refine wp_loop_rounds 1 ?_
  rw [rounds_succ]
  go_upto_region 12 with fail
  refine wp_region_quiet (C := Set10 w base (.slice none 0 0) l x) (by kernel_rfl) (by kernel_rfl) (S2.out.next (Below.refl _ _).drew) ?_
  (refine q_val (v := ?_) (by rfl) ?_ ?_; rotate_left; (· (intro w hC; go_simp; try with_reducible rfl)); (try simp only [Act.put, List.getElem_toArray, List.getElem_cons_succ, List.getElem_cons_zero, List.setIfInBounds_toArray, List.set_cons_zero, List.set_cons_succ]))
  (refine q_val (v := ?_) (by rfl) ?_ ?_; rotate_left; (· (intro w hC; go_simp; try with_reducible rfl)); (try simp only [Act.put, List.getElem_toArray, List.getElem_cons_succ, List.getElem_cons_zero, List.setIfInBounds_toArray, List.set_cons_zero, List.set_cons_succ]))
  (refine q_val (v := ?_) (by rfl) ?_ ?_; rotate_left; (· (intro w hC; go_simp; try with_reducible rfl)); (try simp only [Act.put, List.getElem_toArray, List.getElem_cons_succ, List.getElem_cons_zero, List.setIfInBounds_toArray, List.set_cons_zero, List.set_cons_succ]))
  (refine q_val (v := ?_) (by rfl) ?_ ?_; rotate_left; (· (intro w hC; go_simp; try with_reducible rfl)); (try simp only [Act.put, List.getElem_toArray, List.getElem_cons_succ, List.getElem_cons_zero, List.setIfInBounds_toArray, List.set_cons_zero, List.set_cons_succ]))
  (refine q_val (v := ?_) (by rfl) ?_ ?_; rotate_left; (· (intro w hC; go_simp; try with_reducible rfl)); (try simp only [Act.put, List.getElem_toArray, List.getElem_cons_succ, List.getElem_cons_zero, List.setIfInBounds_toArray, List.set_cons_zero, List.set_cons_succ]))
  (refine q_skip (by rfl) ?_; (try simp only [Act.put, List.getElem_toArray, List.getElem_cons_succ, List.getElem_cons_zero, List.setIfInBounds_toArray, List.set_cons_zero, List.set_cons_succ]))
  (refine q_skip (by rfl) ?_; (try simp only [Act.put, List.getElem_toArray, List.getElem_cons_succ, List.getElem_cons_zero, List.setIfInBounds_toArray, List.set_cons_zero, List.set_cons_succ]))
  (refine q_skip (by rfl) ?_; (try simp only [Act.put, List.getElem_toArray, List.getElem_cons_succ, List.getElem_cons_zero, List.setIfInBounds_toArray, List.set_cons_zero, List.set_cons_succ]))
  (refine q_skip (by rfl) ?_; (try simp only [Act.put, List.getElem_toArray, List.getElem_cons_succ, List.getElem_cons_zero, List.setIfInBounds_toArray, List.set_cons_zero, List.set_cons_succ]))
  (refine q_skip (by rfl) ?_; (try simp only [Act.put, List.getElem_toArray, List.getElem_cons_succ, List.getElem_cons_zero, List.setIfInBounds_toArray, List.set_cons_zero, List.set_cons_succ]))
  (refine q_skip (by rfl) ?_; (try simp only [Act.put, List.getElem_toArray, List.getElem_cons_succ, List.getElem_cons_zero, List.setIfInBounds_toArray, List.set_cons_zero, List.set_cons_succ]))
  (refine q_skip (by rfl) ?_; (try simp only [Act.put, List.getElem_toArray, List.getElem_cons_succ, List.getElem_cons_zero, List.setIfInBounds_toArray, List.set_cons_zero, List.set_cons_succ]))
  (refine q_skip (by rfl) ?_; (try simp only [Act.put, List.getElem_toArray, List.getElem_cons_succ, List.getElem_cons_zero, List.setIfInBounds_toArray, List.set_cons_zero, List.set_cons_succ]))
  (refine q_skip (by rfl) ?_; (try simp only [Act.put, List.getElem_toArray, List.getElem_cons_succ, List.getElem_cons_zero, List.setIfInBounds_toArray, List.set_cons_zero, List.set_cons_succ]))
  (refine q_skip (by rfl) ?_; (try simp only [Act.put, List.getElem_toArray, List.getElem_cons_succ, List.getElem_cons_zero, List.setIfInBounds_toArray, List.set_cons_zero, List.set_cons_succ]))
  (refine q_skip (by rfl) ?_; (try simp only [Act.put, List.getElem_toArray, List.getElem_cons_succ, List.getElem_cons_zero, List.setIfInBounds_toArray, List.set_cons_zero, List.set_cons_succ]))
  (refine q_skip (by rfl) ?_; (try simp only [Act.put, List.getElem_toArray, List.getElem_cons_succ, List.getElem_cons_zero, List.setIfInBounds_toArray, List.set_cons_zero, List.set_cons_succ]))
  (refine q_skip (by rfl) ?_; (try simp only [Act.put, List.getElem_toArray, List.getElem_cons_succ, List.getElem_cons_zero, List.setIfInBounds_toArray, List.set_cons_zero, List.set_cons_succ]))
  (refine q_skip (by rfl) ?_; (try simp only [Act.put, List.getElem_toArray, List.getElem_cons_succ, List.getElem_cons_zero, List.setIfInBounds_toArray, List.set_cons_zero, List.set_cons_succ]))
  (refine q_skip (by rfl) ?_; (try simp only [Act.put, List.getElem_toArray, List.getElem_cons_succ, List.getElem_cons_zero, List.setIfInBounds_toArray, List.set_cons_zero, List.set_cons_succ]))
  (refine q_skip (by rfl) ?_; (try simp only [Act.put, List.getElem_toArray, List.getElem_cons_succ, List.getElem_cons_zero, List.setIfInBounds_toArray, List.set_cons_zero, List.set_cons_succ]))
  (refine q_skip (by rfl) ?_; (try simp only [Act.put, List.getElem_toArray, List.getElem_cons_succ, List.getElem_cons_zero, List.setIfInBounds_toArray, List.set_cons_zero, List.set_cons_succ]))
  (refine q_skip (by rfl) ?_; (try simp only [Act.put, List.getElem_toArray, List.getElem_cons_succ, List.getElem_cons_zero, List.setIfInBounds_toArray, List.set_cons_zero, List.set_cons_succ]))
  (refine q_skip (by rfl) ?_; (try simp only [Act.put, List.getElem_toArray, List.getElem_cons_succ, List.getElem_cons_zero, List.setIfInBounds_toArray, List.set_cons_zero, List.set_cons_succ]))
  (refine q_skip (by rfl) ?_; (try simp only [Act.put, List.getElem_toArray, List.getElem_cons_succ, List.getElem_cons_zero, List.setIfInBounds_toArray, List.set_cons_zero, List.set_cons_succ]))
  (refine q_skip (by rfl) ?_; (try simp only [Act.put, List.getElem_toArray, List.getElem_cons_succ, List.getElem_cons_zero, List.setIfInBounds_toArray, List.set_cons_zero, List.set_cons_succ]))
  (refine q_skip (by rfl) ?_; (try simp only [Act.put, List.getElem_toArray, List.getElem_cons_succ, List.getElem_cons_zero, List.setIfInBounds_toArray, List.set_cons_zero, List.set_cons_succ]))
  (refine q_skip (by rfl) ?_; (try simp only [Act.put, List.getElem_toArray, List.getElem_cons_succ, List.getElem_cons_zero, List.setIfInBounds_toArray, List.set_cons_zero, List.set_cons_succ]))
  (refine q_skip (by rfl) ?_; (try simp only [Act.put, List.getElem_toArray, List.getElem_cons_succ, List.getElem_cons_zero, List.setIfInBounds_toArray, List.set_cons_zero, List.set_cons_succ]))
  (refine q_skip (by rfl) ?_; (try simp only [Act.put, List.getElem_toArray, List.getElem_cons_succ, List.getElem_cons_zero, List.setIfInBounds_toArray, List.set_cons_zero, List.set_cons_succ]))
  (refine q_skip (by rfl) ?_; (try simp only [Act.put, List.getElem_toArray, List.getElem_cons_succ, List.getElem_cons_zero, List.setIfInBounds_toArray, List.set_cons_zero, List.set_cons_succ]))
  (refine q_skip (by rfl) ?_; (try simp only [Act.put, List.getElem_toArray, List.getElem_cons_succ, List.getElem_cons_zero, List.setIfInBounds_toArray, List.set_cons_zero, List.set_cons_succ]))
  (refine q_skip (by rfl) ?_; (try simp only [Act.put, List.getElem_toArray, List.getElem_cons_succ, List.getElem_cons_zero, List.setIfInBounds_toArray, List.set_cons_zero, List.set_cons_succ]))
  (refine q_skip (by rfl) ?_; (try simp only [Act.put, List.getElem_toArray, List.getElem_cons_succ, List.getElem_cons_zero, List.setIfInBounds_toArray, List.set_cons_zero, List.set_cons_succ]))
  (refine q_skip (by rfl) ?_; (try simp only [Act.put, List.getElem_toArray, List.getElem_cons_succ, List.getElem_cons_zero, List.setIfInBounds_toArray, List.set_cons_zero, List.set_cons_succ]))
  (refine q_val (v := ?_) (by rfl) ?_ ?_; rotate_left; (· (intro w hC; go_simp; try with_reducible rfl)); (try simp only [Act.put, List.getElem_toArray, List.getElem_cons_succ, List.getElem_cons_zero, List.setIfInBounds_toArray, List.set_cons_zero, List.set_cons_succ]))
  refine wpQuiet_nil ?_
  intro w5 hC5
  have S5 := Lib.hid hC5
  clear hC5
  go_upto_region 14 with fail
  have HBK := Lib.hid (show ∀ w', Below w5.heap.size w5 w' → Blk w' bx (seA x) 83 from fun w' hb => (S5.out.blk' HBX.out).below hb (S5.out.blk' HBX.out).lt)
  have HS1 := Lib.hid (show ∀ w', Below w5.heap.size w5 w' → Src w' seC (.slice none 0 0) ([] : List Se) from fun w' hb => .inl ⟨rfl, rfl⟩)
  have HS2 := Lib.hid (show ∀ w', Below w5.heap.size w5 w' → Src w' seC (.slice none 0 0) ([] : List Se) from fun w' hb => .inl ⟨rfl, rfl⟩)
  have HLA := Lib.hid (show ([] : List Se).length ≤ 1000 by simp)
  have HLB := Lib.hid (show ([] : List Se).length + ([] : List Se).length ≤ 1000 by simp)
  refine wp_region_inv (I := Ins10nI bx x _ _ _ _ _ _ _ _ _ _ _ _ _ _ _ _ _ _ _ _ _ _ _ _ _ _ _ _ _ _ _ _ _ _ _ _ _ _ _ _ _ _ _ _ _ _ _ _ _ _ _ _ _ _ _ _ _ _ _ _ _ _ _ _ _ _ _ _ _ w5) (by kernel_rfl) (by kernel_rfl) ⟨(.slice none 0 0), (.int .i64 0), undef, undef, undef, undef, undef, undef, undef, undef, undef, undef, undef, undef, rfl, ⟨(fun h => Bool.noConfusion h), (fun h => Bool.noConfusion h), (fun h => Bool.noConfusion h), (fun h => Bool.noConfusion h), (fun h => Bool.noConfusion h), (fun h => Bool.noConfusion h), (fun h => Bool.noConfusion h), (fun h => Bool.noConfusion h), (fun h => Bool.noConfusion h)⟩, InsW.start w5⟩ ?_ ?_
  · intro i hi L a w' hI hL haft
    obtain ⟨v4, v5, v74, v75, v76, v77, v78, v79, v80, v81, v82, v83, v84, v85, rfl, hs, hw⟩ := hI
    match i, hi with
    | 0, _ =>
      exact i_val rfl (.slice (some ⟨w'.heap.size, 0, none⟩) 0 0) (w'.alloc (.cells #[] 83)) (by rfl) (by go_simp) ⟨v4, v5, (.slice (some ⟨w'.heap.size, 0, none⟩) 0 0), v75, v76, v77, v78, v79, v80, v81, v82, v83, v84, v85, rfl, { hs with }, hw.make0 hL⟩
    | 1, _ =>
      exact i_val rfl (.slice none 0 0) w' (by rfl) (by go_simp) ⟨v4, v5, v74, (.slice none 0 0), v76, v77, v78, v79, v80, v81, v82, v83, v84, v85, rfl, { hs with e75 := fun _ => rfl }, hw⟩
    | 2, _ =>
      exact i_val rfl (.int .i64 0) w' (by rfl) (by go_simp) ⟨v4, v5, v74, v75, (.int .i64 0), v77, v78, v79, v80, v81, v82, v83, v84, v85, rfl, { hs with e76 := fun _ => rfl }, hw⟩
    | 3, _ =>
      have e75x := hs.e75 (haft 1 (by decide))
      subst e75x
      have e76x := hs.e76 (haft 2 (by decide))
      subst e76x
      exact i_val rfl (.slice none 0 0) w' (by rfl) (by go_simp) ⟨v4, v5, v74, (.slice none 0 0), (.int .i64 0), (.slice none 0 0), v78, v79, v80, v81, v82, v83, v84, v85, rfl, { hs with e77 := fun _ => rfl }, hw⟩
    | 4, _ =>
      have e77x := hs.e77 (haft 3 (by decide))
      subst e77x
      obtain ⟨u, w2, hrun, hI⟩ := hw.app4 seE (haft 0 (by decide)) hL (HS1.out w' hw.below) HLA.out 70
      exact i_wp rfl (by rfl) (wp_append_lst _ _ 70 rfl u w2 hrun ⟨v4, v5, v74, v75, v76, (.slice none 0 0), u, v79, v80, v81, v82, v83, v84, v85, rfl, { hs with }, hI⟩)
    | 5, _ =>
      exact i_val rfl (.agg (seA x)) w' (by rfl) (run_loadVar_of 83 _ rfl bx rfl 83 (seA x) _ (HBK.out w' hw.below) Try.underlying83 rfl seinfo) ⟨v4, v5, v74, v75, v76, v77, v78, (.agg (seA x)), v80, v81, v82, v83, v84, v85, rfl, { hs with e79 := fun _ => rfl }, hw⟩
    | 6, _ =>
      have e79x := hs.e79 (haft 5 (by decide))
      subst e79x
      exact i_val rfl (.slice (some ⟨w'.heap.size, 0, none⟩) 1 1) (w'.alloc (.cells (seA x) 83)) (by rfl) (by go_simp) ⟨v4, v5, v74, v75, v76, v77, v78, (.agg (seA x)), (.slice (some ⟨w'.heap.size, 0, none⟩) 1 1), v81, v82, v83, v84, v85, rfl, { hs with }, hw.make6 seE hL (seA x) rfl⟩
    | 7, _ =>
      obtain ⟨u, w2, hrun, hI⟩ := hw.app7 seE (haft 4 (by decide)) (haft 6 (by decide)) hL HLA.out 70
      exact i_wp rfl (by rfl) (wp_append_lst _ _ 70 rfl u w2 hrun ⟨v4, v5, v74, v75, v76, v77, v78, v79, v80, u, v82, v83, v84, v85, rfl, { hs with }, hI⟩)
    | 8, _ =>
      exact i_val rfl (.slice none 0 0) w' (by rfl) (by go_simp) ⟨v4, v5, v74, v75, v76, v77, v78, v79, v80, v81, (.slice none 0 0), v83, v84, v85, rfl, { hs with e82 := fun _ => rfl }, hw⟩
    | 9, _ =>
      exact i_val rfl (.int .i64 0) w' (by rfl) (by go_simp) ⟨v4, v5, v74, v75, v76, v77, v78, v79, v80, v81, v82, (.int .i64 0), v84, v85, rfl, { hs with e83 := fun _ => rfl }, hw⟩
    | 10, _ =>
      have e82x := hs.e82 (haft 8 (by decide))
      subst e82x
      have e83x := hs.e83 (haft 9 (by decide))
      subst e83x
      exact i_val rfl (.slice none 0 0) w' (by rfl) (by go_simp) ⟨v4, v5, v74, v75, v76, v77, v78, v79, v80, v81, (.slice none 0 0), (.int .i64 0), (.slice none 0 0), v85, rfl, { hs with e84 := fun _ => rfl }, hw⟩
    | 11, _ =>
      have e84x := hs.e84 (haft 10 (by decide))
      subst e84x
      obtain ⟨u, w2, hrun, hI⟩ := hw.app11 seE (haft 7 (by decide)) hL (HS2.out w' hw.below) HLB.out 70
      exact i_wp rfl (by rfl) (wp_append_lst _ _ 70 rfl u w2 hrun ⟨v4, v5, v74, v75, v76, v77, v78, v79, v80, v81, v82, v83, (.slice none 0 0), u, rfl, { hs with e4 := fun h => by (have := (hs.e4 h).2; rw [hL] at this; cases this) }, hI⟩)
    | 12, _ =>
      exact i_val rfl v85 w' (by rfl) (by go_simp) ⟨v85, v5, v74, v75, v76, v77, v78, v79, v80, v81, v82, v83, v84, v85, rfl, { hs with e4 := fun _ => ⟨rfl, haft 11 (by decide)⟩ }, hw⟩
    | 13, _ =>
      exact i_val rfl (.int .i64 0) w' (by rfl) (by go_simp) ⟨v4, (.int .i64 0), v74, v75, v76, v77, v78, v79, v80, v81, v82, v83, v84, v85, rfl, { hs with e5 := fun _ => rfl }, hw⟩
    | k + 14, h =>
      exfalso
      have h2 : k + 14 < 14 := h
      omega
  intro L a w3 hI hall
  obtain ⟨v4, v5, v74, v75, v76, v77, v78, v79, v80, v81, v82, v83, v84, v85, rfl, hs, hw⟩ := hI
  obtain ⟨e4a, -⟩ := hs.e4 (hall 12 (by decide))
  have e5a := hs.e5 (hall 13 (by decide))
  subst e4a
  subst e5a
  have O6 := Lib.hid (hw.p11 (hall 11 (by decide)))
  have B6 := Lib.hid hw.below
  clear hs hw hall
  go_wp2_with fail
  go_ret2
  exact ⟨_, ret_own R2.out, by rw [R1.out]; exact O6.out.mono (Nat.le_trans HBASE.out (by rw [← HBX.out]; exact S5.out.below.size)), S5.out.below.trans (B6.out.mono S5.out.below.size)⟩

theorem rset10_any (base : Nat) (v : Value) (l : List Se) (x : Se) (w : World) (h : Own w base 83 8 seC v l) (hok : ∀ y ∈ l, seOk y) (hx : seOk x) (hb : base ≤ w.heap.size) (hl : l.length ≤ 100) :
    Calls Try.prog 34 #[v, seV x] w (OwnS w base (setS l x) (setSE l x)) := by
  by_cases hgd : goodS x ≠ 0
  · exact rset10_bad base v l x w h hgd
  · rcases h.cases with ⟨rfl, rfl⟩ | ⟨g, cap, rfl, -, -, hc⟩
    · exact rset10_nil base x w hx hgd hb
    · rcases atK_cases seK (seK x) l with ⟨h1, -⟩ | ⟨k, y, h1, h2, -⟩
      · by_cases h16 : 16 ≤ l.length
        · exact rset10_full base g cap l x w h hok hx hgd hl h1 h16
        · exact rset10_new base g cap l x w h hok hx hgd hb hc h1 h16
      · exact rset10_at base g cap k l x w h hok hx hgd hb hl h1 (List.getElem?_eq_some_iff.1 h2).1
end Go.Proofs.Ytilklfmcdgggfaa
