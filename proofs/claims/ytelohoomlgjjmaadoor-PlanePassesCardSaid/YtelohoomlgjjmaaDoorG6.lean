import Derived.Test.YtelohoomlgjjmaaDoorG5
import Derived.Test.YtelohoomlgjjmaaDoorG3
import Derived.Deep.DeepCutAuto
import Derived.Test.YtelohoomlgjjmaaDoorG1
import Derived.Test.YtelohoomlgjjmaaDoorG4
import Derived.Test.YtelohoomlgjjmaaDoorG2
set_option linter.unusedSimpArgs false
set_option linter.unusedVariables false
namespace Go.Proofs.YtelohoomlgjjmaaDoor
section
/- The developers' table of layer 10: its small function, New, Drop, Get. -/
open Go.RowKit
attribute [local irreducible] wpQuiet
open Go.ChangeMaps (setBlock)

set_option maxRecDepth 100000 in
set_option maxHeartbeats 4000000 in
theorem fault_any (x : Se) (w : World) : Calls Tryd.prog 46 #[seV x] w fun e w' => e = .returned (.int .i64 (goodS x)) ∧ Below w.heap.size w w' := by
  obtain ⟨vid, a, prt⟩ := x
  have HB := Lib.hid ((Below.refl w.heap.size w).alloc (Nat.le_refl _) (.cells (seA ⟨vid, a, prt⟩) 95))
  by_cases h1 : vid < 1
  · have R := Lib.hid (show (15 : Int) = goodS ⟨vid, a, prt⟩ by unfold goodS; rw [if_pos (.inl h1)])
    have e1 : decide ((vid : Int) < 1) = true := by rw [decide_eq_true_eq]; omega
    clear h1
    go_enter Tryd.func46, Tryd.ntmps46
    go_wp2
    go_ret
    exact ⟨ret_int R.out, HB.out⟩
  have e1 : decide ((vid : Int) < 1) = false := by rw [decide_eq_false_iff_not]; omega
  by_cases h2 : 4094 < vid
  · have R := Lib.hid (show (15 : Int) = goodS ⟨vid, a, prt⟩ by unfold goodS; rw [if_pos (.inr h2)])
    have e2 : decide (4094 < (vid : Int)) = true := by rw [decide_eq_true_eq]; omega
    clear h1 h2
    go_enter Tryd.func46, Tryd.ntmps46
    go_wp2
    go_ret
    exact ⟨ret_int R.out, HB.out⟩
  have e2 : decide (4094 < (vid : Int)) = false := by rw [decide_eq_false_iff_not]; omega
  have hnv : ¬ (vid < 1 ∨ 4094 < vid) := by omega
  have K0 := Lib.hid (Blk.new w (seA ⟨vid, a, prt⟩) 95)
  cases h3 : resB (byteF a) with
  | true =>
    have R := Lib.hid (show (6 : Int) = goodS ⟨vid, a, prt⟩ by unfold goodS; rw [if_neg hnv, if_pos h3])
    have H3 := Lib.hid h3
    clear h1 h2 hnv h3
    go_enter Tryd.func46, Tryd.ntmps46
    go_wp2_with (go_at_call 10; refine (reserved_any (byteF a) _ (byteF_six a)).mono ?_; rintro e w1 ⟨rfl, hb1⟩; rw [H3.out])
    go_ret
    exact ⟨ret_int R.out, HB.out.trans (hb1.mono HB.out.size)⟩
  | false =>
    have H3 := Lib.hid h3
    by_cases h4 : 65535 < prt
    · have R := Lib.hid (show (14 : Int) = goodS ⟨vid, a, prt⟩ by unfold goodS; rw [if_neg hnv, if_neg (by rw [h3]; decide), if_pos h4])
      have e4 : ((prt : Int) / 65536 != 0) = true := by simp; omega
      clear h1 h2 hnv h3 h4
      go_enter Tryd.func46, Tryd.ntmps46
      go_upto_region 5 with (go_at_call 10; refine (reserved_any (byteF a) _ (byteF_six a)).mono ?_; rintro e w1 ⟨rfl, hb1⟩; rw [H3.out])
      have c7 : w1.cell? ⟨w.heap.size, 7, none⟩ = some (.int .u32 (prt : Nat)) := by rw [(K0.out.below hb1 K0.out.lt).cell 7]; rfl
      have HB1 := Lib.hid hb1
      clear hb1
      go_wp2
      go_ret
      exact ⟨ret_int R.out, HB.out.trans (HB1.out.mono HB.out.size)⟩
    · have R := Lib.hid (show (0 : Int) = goodS ⟨vid, a, prt⟩ by unfold goodS; rw [if_neg hnv, if_neg (by rw [h3]; decide), if_neg h4])
      have e4 : ((prt : Int) / 65536 != 0) = false := by simp; omega
      clear h1 h2 hnv h3 h4
      go_enter Tryd.func46, Tryd.ntmps46
      go_upto_region 5 with (go_at_call 10; refine (reserved_any (byteF a) _ (byteF_six a)).mono ?_; rintro e w1 ⟨rfl, hb1⟩; rw [H3.out])
      have c7 : w1.cell? ⟨w.heap.size, 7, none⟩ = some (.int .u32 (prt : Nat)) := by rw [(K0.out.below hb1 K0.out.lt).cell 7]; rfl
      have HB1 := Lib.hid hb1
      clear hb1
      go_wp2
      go_ret
      exact ⟨ret_int R.out, HB.out.trans (HB1.out.mono HB.out.size)⟩

theorem zeroS (W : World) : (zeroValue 70).run Tryd.prog W = .ok (.int .u32 0) W := by kernel_rfl
theorem lookS_no {w : World} {mb : Nat} {L : List (Nat × Se)} (h : Tb w mb kvK vvS L) (vid a : Nat) (ha : a < 281474976710656) (g : getL (keyN vid a) L = none) :
    (Instr.lookup 118 (.map (some mb)) (kyV vid a) true).run Tryd.prog w = .ok (.tuple #[.int .u32 0, .bool false]) w := by
  have := Tb.look h ky_keys Tryd.underlying118 (keyN vid a) trivial (fun _ _ => trivial) (zeroS w) true
  rw [g, kvK_of vid a ha] at this
  exact this
theorem lookS_yes {w : World} {mb : Nat} {L : List (Nat × Se)} (h : Tb w mb kvK vvS L) (vid a : Nat) (ha : a < 281474976710656) (x : Se) (g : getL (keyN vid a) L = some x) :
    (Instr.lookup 118 (.map (some mb)) (kyV vid a) true).run Tryd.prog w = .ok (.tuple #[.int .u32 (x.prt : Nat), .bool true]) w := by
  have := Tb.look h ky_keys Tryd.underlying118 (keyN vid a) trivial (fun _ _ => trivial) (zeroS w) true
  rw [g, kvK_of vid a ha] at this
  exact this

theorem new_ts (w : World) : Calls Tryd.prog 23 #[] w fun e w' => ∃ b, e = .returned (.pointer (some ⟨b, 0, none⟩)) ∧ TS w' b w.heap.size w'.heap.size [] ∧ Below w.heap.size w w' := by
  have hmm := @run_makeMap Tryd.prog
  go_enter Tryd.func23, Tryd.ntmps23
  go_wp2
  go_ret
  refine ⟨_, rfl, ⟨w.heap.size, [], ?_, ?_, ?_, ?_, (Tb.new w kvK vvS).alloc _, RelK.nil, by simp⟩, ((Below.refl w.heap.size w).alloc (Nat.le_refl _) _).alloc (by simp) _⟩
  · simp
    try omega
  · simp
    try omega
  · simp
  · have := Blk.new (w.alloc (.map #[] 0)) #[.map (some w.heap.size)] 120
    simpa using this

theorem seven {w : World} {g vid a : Nat} (h : Blk w g (kyA vid a) 63) : w.cell? ⟨g, 0, none⟩ = some (.int .u16 (vid : Nat)) ∧ w.cell? ⟨g, 1, none⟩ = some (.int .u8 (byteF a 0 : Nat)) ∧ w.cell? ⟨g, 2, none⟩ = some (.int .u8 (byteF a 1 : Nat)) ∧ w.cell? ⟨g, 3, none⟩ = some (.int .u8 (byteF a 2 : Nat)) ∧ w.cell? ⟨g, 4, none⟩ = some (.int .u8 (byteF a 3 : Nat)) ∧ w.cell? ⟨g, 5, none⟩ = some (.int .u8 (byteF a 4 : Nat)) ∧ w.cell? ⟨g, 6, none⟩ = some (.int .u8 (byteF a 5 : Nat)) :=
  ⟨h.cell 0, h.cell 1, h.cell 2, h.cell 3, h.cell 4, h.cell 5, h.cell 6⟩

/-- The slots, while the region runs. -/
structure Dr29S (b mb g vid a : Nat) (f1 f2 f4 f5 f6 f7 f8 f9 f10 f11 f12 f13 f14 f15 f16 f17 f18 f19 : Value) (L : Nat → Bool) (v20 v21 v22 v23 v24 : Value) : Prop where
  e20 : L 0 = true → v20 = .pointer (some ⟨b, 0, none⟩)
  e21 : L 1 = true → v21 = .pointer (some ⟨b, 0, none⟩)
  e22 : L 2 = true → v22 = .pointer (some ⟨b, 0, none⟩)
  e23 : L 3 = true → v23 = .map (some mb)
  e24 : L 4 = true → v24 = kyV vid a
abbrev Dr29F (b mb g vid a : Nat) (f1 f2 f4 f5 f6 f7 f8 f9 f10 f11 f12 f13 f14 f15 f16 f17 f18 f19 : Value) (v20 v21 v22 v23 v24 : Value) : Act := { tmps := #[.pointer (some ⟨b, 0, none⟩), f1, f2, .pointer (some ⟨g, 0, none⟩), f4, f5, f6, f7, f8, f9, f10, f11, f12, f13, f14, f15, f16, f17, f18, f19, v20, v21, v22, v23, v24], defers := [] }
def Dr29I (b mb g vid a : Nat) (f1 f2 f4 f5 f6 f7 f8 f9 f10 f11 f12 f13 f14 f15 f16 f17 f18 f19 : Value) (L : Nat → Bool) (ac : Act) : Prop :=
  ∃ v20 v21 v22 v23 v24, ac = Dr29F b mb g vid a f1 f2 f4 f5 f6 f7 f8 f9 f10 f11 f12 f13 f14 f15 f16 f17 f18 f19 v20 v21 v22 v23 v24 ∧ Dr29S b mb g vid a f1 f2 f4 f5 f6 f7 f8 f9 f10 f11 f12 f13 f14 f15 f16 f17 f18 f19 L v20 v21 v22 v23 v24

theorem kySize : (Tryd.prog.info? 63).map (·.size) = some 7 := by kernel_rfl
set_option maxRecDepth 100000 in
set_option maxHeartbeats 8000000 in
theorem get_ts {w : World} {b A B : Nat} {l : List Se} (vid a : Nat) (ha : a < 281474976710656) (h : TS w b A B l) :
    Calls Tryd.prog 49 #[.pointer (some ⟨b, 0, none⟩), kyV vid a] w fun e w' => Below w.heap.size w w' ∧ GetS l (keyN vid a) e := by
  obtain ⟨mb, L, h1, h2, h3, h4, h5, h6, h7⟩ := h
  have H : TS w b A B l := ⟨mb, L, h1, h2, h3, h4, h5, h6, h7⟩
  obtain ⟨w1, hw1⟩ : ∃ w1, w1 = w.alloc (.cells (kyA vid a) 63) := ⟨_, rfl⟩
  have hb1 : Below w.heap.size w w1 := by rw [hw1]; exact (Below.refl w.heap.size w).alloc (Nat.le_refl _) _
  obtain ⟨g, hg⟩ : ∃ g, g = w.heap.size := ⟨_, rfl⟩
  have hk1 : Blk w1 g (kyA vid a) 63 := by rw [hw1, hg]; exact Blk.new _ _ _
  have h4' := h4.alloc (.cells (kyA vid a) 63)
  have h5' := h5.next hb1
  rw [← hw1] at h4'
  have HC := Lib.hid (show ∀ w', Below w1.heap.size w1 w' → w'.cell? ⟨b, 0, none⟩ = some (.map (some mb)) from fun w' hb => by rw [(h4'.below hb h4'.lt).cell]; rfl)
  have HK := Lib.hid (show ∀ w', Below w1.heap.size w1 w' → Blk w' g (kyA vid a) 63 from fun w' hb => hk1.below hb hk1.lt)
  have SZ := Lib.hid kySize
  have HB1 := Lib.hid hb1
  have HW := Lib.hid hw1
  have HG := Lib.hid hg
  rcases h6.get (keyN vid a) with ⟨g1, g2⟩ | ⟨k, x, g1, g2, g3, g4⟩
  · have HL := Lib.hid (show ∀ w', Below w1.heap.size w1 w' → (Instr.lookup 118 (.map (some mb)) (kyV vid a) true).run Tryd.prog w' = .ok (.tuple #[.int .u32 0, .bool false]) w' from fun w' hb => lookS_no (h5'.next hb) vid a ha g2)
    have G1 := Lib.hid g1
    clear h4 h5 g1 g2 H hk1 hb1 hw1 h4' h5' hg
    go_enter Tryd.func49, Tryd.ntmps49
    go_upto_region 1 with fail
    rw [← HW.out, ← HG.out]
    go_upto_region 3 with fail
    refine wp_region_quiet (C := Below w1.heap.size w1) (by kernel_rfl) (by kernel_rfl) (Below.refl _ _).drew ?_
    (refine q_val (v := ?_) (by rfl) ?_ ?_; rotate_left; (· (intro w hC; go_simp; try with_reducible rfl)); (try simp only [Act.put, List.getElem_toArray, List.getElem_cons_succ, List.getElem_cons_zero, List.setIfInBounds_toArray, List.set_cons_zero, List.set_cons_succ]))
    (refine q_val (v := ?_) (by rfl) ?_ ?_; rotate_left; (· (intro w hC; go_simp; try with_reducible rfl)); (try simp only [Act.put, List.getElem_toArray, List.getElem_cons_succ, List.getElem_cons_zero, List.setIfInBounds_toArray, List.set_cons_zero, List.set_cons_succ]))
    (refine q_val (v := ?_) (by rfl) ?_ ?_; rotate_left; (· (intro w hC; go_simp; try with_reducible rfl)); (try simp only [Act.put, List.getElem_toArray, List.getElem_cons_succ, List.getElem_cons_zero, List.setIfInBounds_toArray, List.set_cons_zero, List.set_cons_succ]))
    (refine q_val (v := ?_) (by rfl) ?_ ?_; rotate_left; (· (intro w hC; have q := HC.out w hC; go_simp; try with_reducible rfl)); (try simp only [Act.put, List.getElem_toArray, List.getElem_cons_succ, List.getElem_cons_zero, List.setIfInBounds_toArray, List.set_cons_zero, List.set_cons_succ]))
    (refine q_val (v := kyV vid a) (by rfl) (fun w hC => run_loadVar_of 63 _ rfl g rfl 63 (kyA vid a) _ (HK.out w hC) Tryd.underlying63 rfl SZ.out) ?_; (try simp only [Act.put, List.getElem_toArray, List.getElem_cons_succ, List.getElem_cons_zero, List.setIfInBounds_toArray, List.set_cons_zero, List.set_cons_succ]))
    (refine q_val (v := ?_) (by rfl) ?_ ?_; rotate_left; (· (intro w hC; have q := HL.out w hC; go_simp; try with_reducible rfl)); (try simp only [Act.put, List.getElem_toArray, List.getElem_cons_succ, List.getElem_cons_zero, List.setIfInBounds_toArray, List.set_cons_zero, List.set_cons_succ]))
    (refine q_val (v := ?_) (by rfl) ?_ ?_; rotate_left; (· (intro w hC; go_simp; try with_reducible rfl)); (try simp only [Act.put, List.getElem_toArray, List.getElem_cons_succ, List.getElem_cons_zero, List.setIfInBounds_toArray, List.set_cons_zero, List.set_cons_succ]))
    (refine q_val (v := ?_) (by rfl) ?_ ?_; rotate_left; (· (intro w hC; go_simp; try with_reducible rfl)); (try simp only [Act.put, List.getElem_toArray, List.getElem_cons_succ, List.getElem_cons_zero, List.setIfInBounds_toArray, List.set_cons_zero, List.set_cons_succ]))
    (refine q_val (v := ?_) (by rfl) ?_ ?_; rotate_left; (· (intro w hC; go_simp; try with_reducible rfl)); (try simp only [Act.put, List.getElem_toArray, List.getElem_cons_succ, List.getElem_cons_zero, List.setIfInBounds_toArray, List.set_cons_zero, List.set_cons_succ]))
    (refine q_val (v := ?_) (by rfl) ?_ ?_; rotate_left; (· (intro w hC; go_simp; try with_reducible rfl)); (try simp only [Act.put, List.getElem_toArray, List.getElem_cons_succ, List.getElem_cons_zero, List.setIfInBounds_toArray, List.set_cons_zero, List.set_cons_succ]))
    (refine q_val (v := ?_) (by rfl) ?_ ?_; rotate_left; (· (intro w hC; go_simp; try with_reducible rfl)); (try simp only [Act.put, List.getElem_toArray, List.getElem_cons_succ, List.getElem_cons_zero, List.setIfInBounds_toArray, List.set_cons_zero, List.set_cons_succ]))
    refine wpQuiet_nil ?_
    intro w5 hC5
    have K5 := Lib.hid hC5
    clear hC5
    go_wp2_with fail
    go_ret2
    exact ⟨HB1.out.trans (K5.out.mono HB1.out.size), .inl ⟨G1.out, rfl⟩⟩
  · have HL := Lib.hid (show ∀ w', Below w1.heap.size w1 w' → (Instr.lookup 118 (.map (some mb)) (kyV vid a) true).run Tryd.prog w' = .ok (.tuple #[.int .u32 (x.prt : Nat), .bool true]) w' from fun w' hb => lookS_yes (h5'.next hb) vid a ha _ g4)
    have G1 := Lib.hid g1
    have G2 := Lib.hid g2
    clear h4 h5 g1 g2 H hk1 hb1 hw1 h4' h5' hg
    go_enter Tryd.func49, Tryd.ntmps49
    go_upto_region 1 with fail
    rw [← HW.out, ← HG.out]
    go_upto_region 3 with fail
    refine wp_region_quiet (C := Below w1.heap.size w1) (by kernel_rfl) (by kernel_rfl) (Below.refl _ _).drew ?_
    (refine q_val (v := ?_) (by rfl) ?_ ?_; rotate_left; (· (intro w hC; go_simp; try with_reducible rfl)); (try simp only [Act.put, List.getElem_toArray, List.getElem_cons_succ, List.getElem_cons_zero, List.setIfInBounds_toArray, List.set_cons_zero, List.set_cons_succ]))
    (refine q_val (v := ?_) (by rfl) ?_ ?_; rotate_left; (· (intro w hC; go_simp; try with_reducible rfl)); (try simp only [Act.put, List.getElem_toArray, List.getElem_cons_succ, List.getElem_cons_zero, List.setIfInBounds_toArray, List.set_cons_zero, List.set_cons_succ]))
    (refine q_val (v := ?_) (by rfl) ?_ ?_; rotate_left; (· (intro w hC; go_simp; try with_reducible rfl)); (try simp only [Act.put, List.getElem_toArray, List.getElem_cons_succ, List.getElem_cons_zero, List.setIfInBounds_toArray, List.set_cons_zero, List.set_cons_succ]))
    (refine q_val (v := ?_) (by rfl) ?_ ?_; rotate_left; (· (intro w hC; have q := HC.out w hC; go_simp; try with_reducible rfl)); (try simp only [Act.put, List.getElem_toArray, List.getElem_cons_succ, List.getElem_cons_zero, List.setIfInBounds_toArray, List.set_cons_zero, List.set_cons_succ]))
    (refine q_val (v := kyV vid a) (by rfl) (fun w hC => run_loadVar_of 63 _ rfl g rfl 63 (kyA vid a) _ (HK.out w hC) Tryd.underlying63 rfl SZ.out) ?_; (try simp only [Act.put, List.getElem_toArray, List.getElem_cons_succ, List.getElem_cons_zero, List.setIfInBounds_toArray, List.set_cons_zero, List.set_cons_succ]))
    (refine q_val (v := ?_) (by rfl) ?_ ?_; rotate_left; (· (intro w hC; have q := HL.out w hC; go_simp; try with_reducible rfl)); (try simp only [Act.put, List.getElem_toArray, List.getElem_cons_succ, List.getElem_cons_zero, List.setIfInBounds_toArray, List.set_cons_zero, List.set_cons_succ]))
    (refine q_val (v := ?_) (by rfl) ?_ ?_; rotate_left; (· (intro w hC; go_simp; try with_reducible rfl)); (try simp only [Act.put, List.getElem_toArray, List.getElem_cons_succ, List.getElem_cons_zero, List.setIfInBounds_toArray, List.set_cons_zero, List.set_cons_succ]))
    (refine q_val (v := ?_) (by rfl) ?_ ?_; rotate_left; (· (intro w hC; go_simp; try with_reducible rfl)); (try simp only [Act.put, List.getElem_toArray, List.getElem_cons_succ, List.getElem_cons_zero, List.setIfInBounds_toArray, List.set_cons_zero, List.set_cons_succ]))
    (refine q_val (v := ?_) (by rfl) ?_ ?_; rotate_left; (· (intro w hC; go_simp; try with_reducible rfl)); (try simp only [Act.put, List.getElem_toArray, List.getElem_cons_succ, List.getElem_cons_zero, List.setIfInBounds_toArray, List.set_cons_zero, List.set_cons_succ]))
    (refine q_val (v := ?_) (by rfl) ?_ ?_; rotate_left; (· (intro w hC; go_simp; try with_reducible rfl)); (try simp only [Act.put, List.getElem_toArray, List.getElem_cons_succ, List.getElem_cons_zero, List.setIfInBounds_toArray, List.set_cons_zero, List.set_cons_succ]))
    (refine q_val (v := ?_) (by rfl) ?_ ?_; rotate_left; (· (intro w hC; go_simp; try with_reducible rfl)); (try simp only [Act.put, List.getElem_toArray, List.getElem_cons_succ, List.getElem_cons_zero, List.setIfInBounds_toArray, List.set_cons_zero, List.set_cons_succ]))
    refine wpQuiet_nil ?_
    intro w5 hC5
    have K5 := Lib.hid hC5
    clear hC5
    go_wp2_with fail
    go_ret2
    exact ⟨HB1.out.trans (K5.out.mono HB1.out.size), .inr ⟨k, x, G1.out, G2.out, rfl⟩⟩
theorem se_range {w : World} {g : Nat} {x : Se} {t : TypeId} (h : Blk w g (seA x) t) : w.rangeAt g 0 (kyA x.vid x.mac).toList := by
  intro j u hu
  rw [Nat.zero_add, h.cell]
  have hj : j < 7 := by
    have := (List.getElem?_eq_some_iff.1 hu).1
    simpa using this
  match j, hj with
  | 0, _ => simpa using hu
  | 1, _ => simpa using hu
  | 2, _ => simpa using hu
  | 3, _ => simpa using hu
  | 4, _ => simpa using hu
  | 5, _ => simpa using hu
  | 6, _ => simpa using hu
theorem seSize86 : (Tryd.prog.info? 95).map (·.size) = some 8 := by kernel_rfl
/-- The slots, while the region runs. -/
structure St33S (b mb g : Nat) (x : Se) (f1 f2 f4 f5 f6 f7 f8 f9 f10 f11 f12 f13 f14 f15 f16 f17 f18 f19 f20 f21 f22 f23 f24 f25 f26 f27 f28 f29 f30 f31 f32 f33 f34 : Value) (L : Nat → Bool) (v35 v36 v37 v38 v39 v40 v41 v42 : Value) : Prop where
  e35 : L 0 = true → v35 = .pointer (some ⟨b, 0, none⟩)
  e36 : L 1 = true → v36 = .pointer (some ⟨b, 0, none⟩)
  e37 : L 2 = true → v37 = .pointer (some ⟨b, 0, none⟩)
  e38 : L 3 = true → v38 = .map (some mb)
  e39 : L 4 = true → v39 = .pointer (some ⟨g, 0, none⟩)
  e40 : L 5 = true → v40 = kyV x.vid x.mac
  e41 : L 6 = true → v41 = .pointer (some ⟨g, 7, none⟩)
  e42 : L 7 = true → v42 = .int .u32 (x.prt : Nat)
abbrev St33F (b mb g : Nat) (x : Se) (f1 f2 f4 f5 f6 f7 f8 f9 f10 f11 f12 f13 f14 f15 f16 f17 f18 f19 f20 f21 f22 f23 f24 f25 f26 f27 f28 f29 f30 f31 f32 f33 f34 : Value) (v35 v36 v37 v38 v39 v40 v41 v42 : Value) : Act := { tmps := #[.pointer (some ⟨b, 0, none⟩), f1, f2, .pointer (some ⟨g, 0, none⟩), f4, f5, f6, f7, f8, f9, f10, f11, f12, f13, f14, f15, f16, f17, f18, f19, f20, f21, f22, f23, f24, f25, f26, f27, f28, f29, f30, f31, f32, f33, f34, v35, v36, v37, v38, v39, v40, v41, v42], defers := [] }
def St33I (b mb g : Nat) (x : Se) (f1 f2 f4 f5 f6 f7 f8 f9 f10 f11 f12 f13 f14 f15 f16 f17 f18 f19 f20 f21 f22 f23 f24 f25 f26 f27 f28 f29 f30 f31 f32 f33 f34 : Value) (L : Nat → Bool) (ac : Act) : Prop :=
  ∃ v35 v36 v37 v38 v39 v40 v41 v42, ac = St33F b mb g x f1 f2 f4 f5 f6 f7 f8 f9 f10 f11 f12 f13 f14 f15 f16 f17 f18 f19 f20 f21 f22 f23 f24 f25 f26 f27 f28 f29 f30 f31 f32 f33 f34 v35 v36 v37 v38 v39 v40 v41 v42 ∧ St33S b mb g x f1 f2 f4 f5 f6 f7 f8 f9 f10 f11 f12 f13 f14 f15 f16 f17 f18 f19 f20 f21 f22 f23 f24 f25 f26 f27 f28 f29 f30 f31 f32 f33 f34 L v35 v36 v37 v38 v39 v40 v41 v42

set_option maxRecDepth 100000 in
set_option maxHeartbeats 16000000 in
theorem set_ts {w : World} {b A B : Nat} {l : List Se} (x : Se) (hx : seOk x) (h : TS w b A B l) (hl : l.length ≤ 100) (hAB : A ≤ B) (hB : B ≤ w.heap.size) :
    Calls Tryd.prog 26 #[.pointer (some ⟨b, 0, none⟩), seV x] w fun e w' => e = .returned (.int .i64 (setSE l x)) ∧ TS w' b A B (setS l x) ∧ KeptO A B w w' := by
  obtain ⟨mb, L, h1, h2, h3, h4, h5, h6, h7⟩ := h
  have H : TS w b A B l := ⟨mb, L, h1, h2, h3, h4, h5, h6, h7⟩
  obtain ⟨w1, hw1⟩ : ∃ w1, w1 = w.alloc (.cells (seA x) 95) := ⟨_, rfl⟩
  have hb1 : Below w.heap.size w w1 := by rw [hw1]; exact (Below.refl w.heap.size w).alloc (Nat.le_refl _) _
  obtain ⟨g, hg⟩ : ∃ g, g = w.heap.size := ⟨_, rfl⟩
  have hk1 : Blk w1 g (seA x) 95 := by rw [hw1, hg]; exact Blk.new _ _ _
  have h4' := h4.below hb1 (by omega)
  have h5' := h5.next hb1
  have HC := Lib.hid (show ∀ w', Below w1.heap.size w1 w' → w'.cell? ⟨b, 0, none⟩ = some (.map (some mb)) from fun w' hb => by rw [(h4'.below hb h4'.lt).cell]; rfl)
  have HK := Lib.hid (show ∀ w', Below w1.heap.size w1 w' → Blk w' g (seA x) 95 from fun w' hb => hk1.below hb hk1.lt)
  have HKX := Lib.hid (show w1.heap[g]? = some (.cells (seA x) 95 (0, 0)) from hk1)
  have SZ := Lib.hid kySize
  have SZ8 := Lib.hid (show (Tryd.prog.info? 95).map (·.size) = some (seA x).size from seSize86)
  have HB1 := Lib.hid hb1
  have HW := Lib.hid hw1
  have HG := Lib.hid hg
  have HH := Lib.hid H
  have H4 := Lib.hid h4
  have H5 := Lib.hid h5'
  by_cases hgd : goodS x ≠ 0
  · obtain ⟨er, her⟩ : ∃ er, goodS x = er := ⟨_, rfl⟩
    have HGD := Lib.hid her
    have R1 := Lib.hid (show er = setSE l x by unfold setSE; rw [if_pos hgd, her])
    have R2 := Lib.hid (show setS l x = l by unfold setS; rw [if_pos hgd])
    have hne : (er != 0) = true := by rw [← her]; simpa using hgd
    clear h4 h5 H hk1 hb1 hw1 h4' h5' hg her hgd
    go_enter Tryd.func26, Tryd.ntmps26
    go_upto_region 1 with fail
    rw [← HW.out, ← HG.out]
    go_upto_region 3 with fail
    go_upto_region 4 with (first | (refine wpList_load_row rfl 95 _ rfl g rfl 95 _ (0, 0) _ HKX.out Tryd.underlying95 rfl SZ8.out ?_) | (go_at_call 46; refine (fault_any x _).mono ?_; rintro e w2 ⟨rfl, hb2⟩))
    rw [HGD.out]
    go_wp2_with fail
    go_ret
    refine ⟨ret_int R1.out, ?_⟩
    rw [R2.out]
    exact HH.out.next hB (HB1.out.trans (hb2.mono HB1.out.size))
  have HGD := Lib.hid (show goodS x = 0 by simpa using hgd)
  rcases h6.get (keyN x.vid x.mac) with ⟨g1, g2⟩ | ⟨k, z, g1, g2, g3, g4⟩
  · have HL := Lib.hid (show ∀ w', Below w1.heap.size w1 w' → (Instr.lookup 118 (.map (some mb)) (kyV x.vid x.mac) true).run Tryd.prog w' = .ok (.tuple #[.int .u32 0, .bool false]) w' from fun w' hb => lookS_no (h5'.next hb) x.vid x.mac hx g2)
    have hgn : ∀ y ∈ l, seK y ≠ seK x := by
      rcases atK_cases seK (seK x) l with ⟨-, q⟩ | ⟨k, y, q, -, -⟩
      · exact q
      · exact absurd (show atK seK (seK x) l = -1 from g1) (by omega)
    have g1' : atK seK (seK x) l = -1 := g1
    obtain ⟨n, hn⟩ : ∃ n, L.length = n := ⟨_, rfl⟩
    have hnl : n = l.length := by rw [← hn, h6.len]
    have hn100 : n ≤ 100 := by omega
    have HLEN := Lib.hid (show ∀ w', Below w1.heap.size w1 w' → (Builtin.len_ #[118] 3 #[.map (some mb)]).run Tryd.prog w' = .ok (.int .i64 (n : Nat)) w' from fun w' hb => by rw [← hn]; exact (h5'.next hb).len (P := Tryd.prog) Tryd.underlying118 3)
    by_cases h16 : 16 ≤ n
    · have R1 := Lib.hid (show (13 : Int) = setSE l x by unfold setSE; rw [if_neg hgd, g1', if_neg (by omega), if_pos (by omega)])
      have R2 := Lib.hid (show setS l x = l by unfold setS; rw [if_neg hgd, g1', if_neg (by omega), if_pos (by omega)])
      have hge : decide ((16 : Int) ≤ (n : Int)) = true := by rw [decide_eq_true_eq]; omega
      clear h4 h5 H hk1 hb1 hw1 h4' h5' hg hgd g1 g2 g1' hgn hn hnl
      go_enter Tryd.func26, Tryd.ntmps26
      go_upto_region 1 with fail
      rw [← HW.out, ← HG.out]
      go_upto_region 3 with fail
      go_upto_region 4 with (first | (refine wpList_load_row rfl 95 _ rfl g rfl 95 _ (0, 0) _ HKX.out Tryd.underlying95 rfl SZ8.out ?_) | (go_at_call 46; refine (fault_any x _).mono ?_; rintro e w2 ⟨rfl, hb2⟩))
      rw [HGD.out]
      have HB2 := Lib.hid hb2
      clear hb2
      go_upto_region 6 with fail
      refine wp_region_quiet (C := Below w2.heap.size w2) (by kernel_rfl) (by kernel_rfl) (Below.refl _ _).drew ?_
      (refine q_val (v := ?_) (by rfl) ?_ ?_; rotate_left; (· (intro w hC; go_simp; try with_reducible rfl)); (try simp only [Act.put, List.getElem_toArray, List.getElem_cons_succ, List.getElem_cons_zero, List.setIfInBounds_toArray, List.set_cons_zero, List.set_cons_succ]))
      (refine q_val (v := ?_) (by rfl) ?_ ?_; rotate_left; (· (intro w hC; go_simp; try with_reducible rfl)); (try simp only [Act.put, List.getElem_toArray, List.getElem_cons_succ, List.getElem_cons_zero, List.setIfInBounds_toArray, List.set_cons_zero, List.set_cons_succ]))
      (refine q_val (v := ?_) (by rfl) ?_ ?_; rotate_left; (· (intro w hC; go_simp; try with_reducible rfl)); (try simp only [Act.put, List.getElem_toArray, List.getElem_cons_succ, List.getElem_cons_zero, List.setIfInBounds_toArray, List.set_cons_zero, List.set_cons_succ]))
      (refine q_val (v := ?_) (by rfl) ?_ ?_; rotate_left; (· (intro w hC; have q := HC.out w (HB2.out.trans (hC.mono HB2.out.size)); go_simp; try with_reducible rfl)); (try simp only [Act.put, List.getElem_toArray, List.getElem_cons_succ, List.getElem_cons_zero, List.setIfInBounds_toArray, List.set_cons_zero, List.set_cons_succ]))
      (refine q_val (v := ?_) (by rfl) ?_ ?_; rotate_left; (· (intro w hC; go_simp; try with_reducible rfl)); (try simp only [Act.put, List.getElem_toArray, List.getElem_cons_succ, List.getElem_cons_zero, List.setIfInBounds_toArray, List.set_cons_zero, List.set_cons_succ]))
      (refine q_val (v := kyV x.vid x.mac) (by rfl) (fun w hC => run_loadRange 63 _ rfl g 0 rfl (kyA x.vid x.mac) _ (se_range (HK.out w (HB2.out.trans (hC.mono HB2.out.size)))) Tryd.underlying63 rfl SZ.out) ?_; (try simp only [Act.put, List.getElem_toArray, List.getElem_cons_succ, List.getElem_cons_zero, List.setIfInBounds_toArray, List.set_cons_zero, List.set_cons_succ]))
      (refine q_val (v := ?_) (by rfl) ?_ ?_; rotate_left; (· (intro w hC; have q := HL.out w (HB2.out.trans (hC.mono HB2.out.size)); go_simp; try with_reducible rfl)); (try simp only [Act.put, List.getElem_toArray, List.getElem_cons_succ, List.getElem_cons_zero, List.setIfInBounds_toArray, List.set_cons_zero, List.set_cons_succ]))
      (refine q_val (v := ?_) (by rfl) ?_ ?_; rotate_left; (· (intro w hC; go_simp; try with_reducible rfl)); (try simp only [Act.put, List.getElem_toArray, List.getElem_cons_succ, List.getElem_cons_zero, List.setIfInBounds_toArray, List.set_cons_zero, List.set_cons_succ]))
      (refine q_val (v := ?_) (by rfl) ?_ ?_; rotate_left; (· (intro w hC; go_simp; try with_reducible rfl)); (try simp only [Act.put, List.getElem_toArray, List.getElem_cons_succ, List.getElem_cons_zero, List.setIfInBounds_toArray, List.set_cons_zero, List.set_cons_succ]))
      (refine q_val (v := ?_) (by rfl) ?_ ?_; rotate_left; (· (intro w hC; go_simp; try with_reducible rfl)); (try simp only [Act.put, List.getElem_toArray, List.getElem_cons_succ, List.getElem_cons_zero, List.setIfInBounds_toArray, List.set_cons_zero, List.set_cons_succ]))
      (refine q_val (v := ?_) (by rfl) ?_ ?_; rotate_left; (· (intro w hC; go_simp; try with_reducible rfl)); (try simp only [Act.put, List.getElem_toArray, List.getElem_cons_succ, List.getElem_cons_zero, List.setIfInBounds_toArray, List.set_cons_zero, List.set_cons_succ]))
      (refine q_val (v := ?_) (by rfl) ?_ ?_; rotate_left; (· (intro w hC; go_simp; try with_reducible rfl)); (try simp only [Act.put, List.getElem_toArray, List.getElem_cons_succ, List.getElem_cons_zero, List.setIfInBounds_toArray, List.set_cons_zero, List.set_cons_succ]))
      refine wpQuiet_nil ?_
      intro w4 hC4
      have K4 := Lib.hid (HB2.out.trans (hC4.mono HB2.out.size))
      clear hC4
      have hlen := HLEN.out w4 K4.out
      have hc4 := HC.out w4 K4.out
      go_wp2_with fail
      go_ret
      refine ⟨ret_int R1.out, ?_⟩
      rw [R2.out]
      exact HH.out.next hB (HB1.out.trans (K4.out.mono HB1.out.size))
    · have R1 := Lib.hid (show (0 : Int) = setSE l x by unfold setSE; rw [if_neg hgd, g1', if_neg (by omega), if_neg (by omega)])
      have HRK := Lib.hid (show RelK seK (putL (keyN x.vid x.mac) x L) (setS l x) by unfold setS; rw [if_neg hgd, g1', if_neg (by omega), if_neg (by omega)]; exact h6.lay x hgn)
      have hge : decide ((16 : Int) ≤ (n : Int)) = false := by rw [decide_eq_false_iff_not]; omega
      clear h4 h5 H hk1 hb1 hw1 h4' h5' hg hgd g1 g2 g1' hgn hn hnl
      go_enter Tryd.func26, Tryd.ntmps26
      go_upto_region 1 with fail
      rw [← HW.out, ← HG.out]
      go_upto_region 3 with fail
      go_upto_region 4 with (first | (refine wpList_load_row rfl 95 _ rfl g rfl 95 _ (0, 0) _ HKX.out Tryd.underlying95 rfl SZ8.out ?_) | (go_at_call 46; refine (fault_any x _).mono ?_; rintro e w2 ⟨rfl, hb2⟩))
      rw [HGD.out]
      have HB2 := Lib.hid hb2
      clear hb2
      go_upto_region 6 with fail
      refine wp_region_quiet (C := Below w2.heap.size w2) (by kernel_rfl) (by kernel_rfl) (Below.refl _ _).drew ?_
      (refine q_val (v := ?_) (by rfl) ?_ ?_; rotate_left; (· (intro w hC; go_simp; try with_reducible rfl)); (try simp only [Act.put, List.getElem_toArray, List.getElem_cons_succ, List.getElem_cons_zero, List.setIfInBounds_toArray, List.set_cons_zero, List.set_cons_succ]))
      (refine q_val (v := ?_) (by rfl) ?_ ?_; rotate_left; (· (intro w hC; go_simp; try with_reducible rfl)); (try simp only [Act.put, List.getElem_toArray, List.getElem_cons_succ, List.getElem_cons_zero, List.setIfInBounds_toArray, List.set_cons_zero, List.set_cons_succ]))
      (refine q_val (v := ?_) (by rfl) ?_ ?_; rotate_left; (· (intro w hC; go_simp; try with_reducible rfl)); (try simp only [Act.put, List.getElem_toArray, List.getElem_cons_succ, List.getElem_cons_zero, List.setIfInBounds_toArray, List.set_cons_zero, List.set_cons_succ]))
      (refine q_val (v := ?_) (by rfl) ?_ ?_; rotate_left; (· (intro w hC; have q := HC.out w (HB2.out.trans (hC.mono HB2.out.size)); go_simp; try with_reducible rfl)); (try simp only [Act.put, List.getElem_toArray, List.getElem_cons_succ, List.getElem_cons_zero, List.setIfInBounds_toArray, List.set_cons_zero, List.set_cons_succ]))
      (refine q_val (v := ?_) (by rfl) ?_ ?_; rotate_left; (· (intro w hC; go_simp; try with_reducible rfl)); (try simp only [Act.put, List.getElem_toArray, List.getElem_cons_succ, List.getElem_cons_zero, List.setIfInBounds_toArray, List.set_cons_zero, List.set_cons_succ]))
      (refine q_val (v := kyV x.vid x.mac) (by rfl) (fun w hC => run_loadRange 63 _ rfl g 0 rfl (kyA x.vid x.mac) _ (se_range (HK.out w (HB2.out.trans (hC.mono HB2.out.size)))) Tryd.underlying63 rfl SZ.out) ?_; (try simp only [Act.put, List.getElem_toArray, List.getElem_cons_succ, List.getElem_cons_zero, List.setIfInBounds_toArray, List.set_cons_zero, List.set_cons_succ]))
      (refine q_val (v := ?_) (by rfl) ?_ ?_; rotate_left; (· (intro w hC; have q := HL.out w (HB2.out.trans (hC.mono HB2.out.size)); go_simp; try with_reducible rfl)); (try simp only [Act.put, List.getElem_toArray, List.getElem_cons_succ, List.getElem_cons_zero, List.setIfInBounds_toArray, List.set_cons_zero, List.set_cons_succ]))
      (refine q_val (v := ?_) (by rfl) ?_ ?_; rotate_left; (· (intro w hC; go_simp; try with_reducible rfl)); (try simp only [Act.put, List.getElem_toArray, List.getElem_cons_succ, List.getElem_cons_zero, List.setIfInBounds_toArray, List.set_cons_zero, List.set_cons_succ]))
      (refine q_val (v := ?_) (by rfl) ?_ ?_; rotate_left; (· (intro w hC; go_simp; try with_reducible rfl)); (try simp only [Act.put, List.getElem_toArray, List.getElem_cons_succ, List.getElem_cons_zero, List.setIfInBounds_toArray, List.set_cons_zero, List.set_cons_succ]))
      (refine q_val (v := ?_) (by rfl) ?_ ?_; rotate_left; (· (intro w hC; go_simp; try with_reducible rfl)); (try simp only [Act.put, List.getElem_toArray, List.getElem_cons_succ, List.getElem_cons_zero, List.setIfInBounds_toArray, List.set_cons_zero, List.set_cons_succ]))
      (refine q_val (v := ?_) (by rfl) ?_ ?_; rotate_left; (· (intro w hC; go_simp; try with_reducible rfl)); (try simp only [Act.put, List.getElem_toArray, List.getElem_cons_succ, List.getElem_cons_zero, List.setIfInBounds_toArray, List.set_cons_zero, List.set_cons_succ]))
      (refine q_val (v := ?_) (by rfl) ?_ ?_; rotate_left; (· (intro w hC; go_simp; try with_reducible rfl)); (try simp only [Act.put, List.getElem_toArray, List.getElem_cons_succ, List.getElem_cons_zero, List.setIfInBounds_toArray, List.set_cons_zero, List.set_cons_succ]))
      refine wpQuiet_nil ?_
      intro w4 hC4
      have K4 := Lib.hid (HB2.out.trans (hC4.mono HB2.out.size))
      clear hC4
      have hlen := HLEN.out w4 K4.out
      have hc4 := HC.out w4 K4.out
      go_upto_region 9 with fail
      clear hlen hc4
      refine wp_region_last 8 (I := St33I b mb g x _ _ _ _ _ _ _ _ _ _ _ _ _ _ _ _ _ _ _ _ _ _ _ _ _ _ _ _ _ _ _ _ _) (by kernel_rfl) (by kernel_rfl) (by kernel_rfl) ⟨_, _, _, _, _, _, _, _, rfl, ⟨(fun h => Bool.noConfusion h), (fun h => Bool.noConfusion h), (fun h => Bool.noConfusion h), (fun h => Bool.noConfusion h), (fun h => Bool.noConfusion h), (fun h => Bool.noConfusion h), (fun h => Bool.noConfusion h), (fun h => Bool.noConfusion h)⟩⟩ ?_
      intro w5 hb5
      have hb6 := K4.out.trans (hb5.mono K4.out.size)
      have hc5 := HC.out w5 hb6
      have hk5 := HK.out w5 hb6
      have hc7 := hk5.cell 7
      simp only [List.getElem?_toArray, List.getElem?_cons_zero, List.getElem?_cons_succ] at hc7
      have HB6 := Lib.hid hb6
      clear hb6
      refine ⟨?_, ?_⟩
      · intro i hi Lx ac hI hL haft
        obtain ⟨v35, v36, v37, v38, v39, v40, v41, v42, rfl, hs⟩ := hI
        match i, hi with
        | 0, _ =>
          exact i_val rfl (.pointer (some ⟨b, 0, none⟩)) w5 (by rfl) (by go_simp) ⟨⟨(.pointer (some ⟨b, 0, none⟩)), v36, v37, v38, v39, v40, v41, v42, rfl, { hs with e35 := fun _ => rfl }⟩, rfl⟩
        | 1, _ =>
          have e35x := hs.e35 (haft 0 (by decide))
          subst e35x
          exact i_val rfl (.pointer (some ⟨b, 0, none⟩)) w5 (by rfl) (by go_simp) ⟨⟨(.pointer (some ⟨b, 0, none⟩)), (.pointer (some ⟨b, 0, none⟩)), v37, v38, v39, v40, v41, v42, rfl, { hs with e36 := fun _ => rfl }⟩, rfl⟩
        | 2, _ =>
          have e36x := hs.e36 (haft 1 (by decide))
          subst e36x
          exact i_val rfl (.pointer (some ⟨b, 0, none⟩)) w5 (by rfl) (by go_simp) ⟨⟨v35, (.pointer (some ⟨b, 0, none⟩)), (.pointer (some ⟨b, 0, none⟩)), v38, v39, v40, v41, v42, rfl, { hs with e37 := fun _ => rfl }⟩, rfl⟩
        | 3, _ =>
          have e37x := hs.e37 (haft 2 (by decide))
          subst e37x
          have q := hc5
          exact i_val rfl (.map (some mb)) w5 (by rfl) (by go_simp) ⟨⟨v35, v36, (.pointer (some ⟨b, 0, none⟩)), (.map (some mb)), v39, v40, v41, v42, rfl, { hs with e38 := fun _ => rfl }⟩, rfl⟩
        | 4, _ =>
          exact i_val rfl (.pointer (some ⟨g, 0, none⟩)) w5 (by rfl) (by go_simp) ⟨⟨v35, v36, v37, v38, (.pointer (some ⟨g, 0, none⟩)), v40, v41, v42, rfl, { hs with e39 := fun _ => rfl }⟩, rfl⟩
        | 5, _ =>
          have e39x := hs.e39 (haft 4 (by decide))
          subst e39x
          exact i_val rfl (kyV x.vid x.mac) w5 (by rfl) (run_loadRange 63 _ rfl g 0 rfl (kyA x.vid x.mac) _ (se_range hk5) Tryd.underlying63 rfl SZ.out) ⟨⟨v35, v36, v37, v38, (.pointer (some ⟨g, 0, none⟩)), (kyV x.vid x.mac), v41, v42, rfl, { hs with e40 := fun _ => rfl }⟩, rfl⟩
        | 6, _ =>
          exact i_val rfl (.pointer (some ⟨g, 7, none⟩)) w5 (by rfl) (by go_simp) ⟨⟨v35, v36, v37, v38, v39, v40, (.pointer (some ⟨g, 7, none⟩)), v42, rfl, { hs with e41 := fun _ => rfl }⟩, rfl⟩
        | 7, _ =>
          have e41x := hs.e41 (haft 6 (by decide))
          subst e41x
          have q := hc7
          exact i_val rfl (.int .u32 (x.prt : Nat)) w5 (by rfl) (by go_simp) ⟨⟨v35, v36, v37, v38, v39, v40, (.pointer (some ⟨g, 7, none⟩)), (.int .u32 (x.prt : Nat)), rfl, { hs with e42 := fun _ => rfl }⟩, rfl⟩
        | k + 8, h =>
          exfalso
          have h2 : k + 8 < 8 := h
          omega
      intro Lx ac hI hall
      obtain ⟨v35, v36, v37, v38, v39, v40, v41, v42, rfl, hs⟩ := hI
      have e35y := hs.e35 (hall 0 (by decide))
      subst e35y
      have e36y := hs.e36 (hall 1 (by decide))
      subst e36y
      have e37y := hs.e37 (hall 2 (by decide))
      subst e37y
      have e38y := hs.e38 (hall 3 (by decide))
      subst e38y
      have e39y := hs.e39 (hall 4 (by decide))
      subst e39y
      have e40y := hs.e40 (hall 5 (by decide))
      subst e40y
      have e41y := hs.e41 (hall 6 (by decide))
      subst e41y
      have e42y := hs.e42 (hall 7 (by decide))
      subst e42y
      clear hs hall
      obtain ⟨o, hd, ht⟩ := (H5.out.next HB6.out).put ky_keys Tryd.underlying118 (keyN x.vid x.mac) x trivial (fun _ _ => trivial)
      rw [kvK_of x.vid x.mac hx] at hd
      have HT := Lib.hid ht
      clear ht hc5 hk5 hc7
      unfold vvS at hd
      refine i_skip rfl (setBlock w5 mb o) (by rfl) (by go_simp) ?_
      clear hd
      go_wp2_with fail
      go_ret
      refine ⟨ret_int R1.out, ?_⟩
      exact TS.turned h1 h2 h3 H4.out hB (HB1.out.trans (HB6.out.mono HB1.out.size)) HT.out HRK.out (setS_good h7 hx)
  · have HL := Lib.hid (show ∀ w', Below w1.heap.size w1 w' → (Instr.lookup 118 (.map (some mb)) (kyV x.vid x.mac) true).run Tryd.prog w' = .ok (.tuple #[.int .u32 (z.prt : Nat), .bool true]) w' from fun w' hb => lookS_yes (h5'.next hb) x.vid x.mac hx _ g4)
    have g1' : atK seK (seK x) l = k := g1
    have R1 := Lib.hid (show (0 : Int) = setSE l x by unfold setSE; rw [if_neg hgd, g1', if_pos (by omega)])
    have HRK := Lib.hid (show RelK seK (putL (keyN x.vid x.mac) x L) (setS l x) by unfold setS; rw [if_neg hgd, g1', if_pos (by omega), Int.toNat_natCast]; exact h6.set x g2 g3)
    clear h4 h5 H hk1 hb1 hw1 h4' h5' hg hgd g1 g2 g1'
    go_enter Tryd.func26, Tryd.ntmps26
    go_upto_region 1 with fail
    rw [← HW.out, ← HG.out]
    go_upto_region 3 with fail
    go_upto_region 4 with (first | (refine wpList_load_row rfl 95 _ rfl g rfl 95 _ (0, 0) _ HKX.out Tryd.underlying95 rfl SZ8.out ?_) | (go_at_call 46; refine (fault_any x _).mono ?_; rintro e w2 ⟨rfl, hb2⟩))
    rw [HGD.out]
    have HB2 := Lib.hid hb2
    clear hb2
    go_upto_region 6 with fail
    refine wp_region_quiet (C := Below w2.heap.size w2) (by kernel_rfl) (by kernel_rfl) (Below.refl _ _).drew ?_
    (refine q_val (v := ?_) (by rfl) ?_ ?_; rotate_left; (· (intro w hC; go_simp; try with_reducible rfl)); (try simp only [Act.put, List.getElem_toArray, List.getElem_cons_succ, List.getElem_cons_zero, List.setIfInBounds_toArray, List.set_cons_zero, List.set_cons_succ]))
    (refine q_val (v := ?_) (by rfl) ?_ ?_; rotate_left; (· (intro w hC; go_simp; try with_reducible rfl)); (try simp only [Act.put, List.getElem_toArray, List.getElem_cons_succ, List.getElem_cons_zero, List.setIfInBounds_toArray, List.set_cons_zero, List.set_cons_succ]))
    (refine q_val (v := ?_) (by rfl) ?_ ?_; rotate_left; (· (intro w hC; go_simp; try with_reducible rfl)); (try simp only [Act.put, List.getElem_toArray, List.getElem_cons_succ, List.getElem_cons_zero, List.setIfInBounds_toArray, List.set_cons_zero, List.set_cons_succ]))
    (refine q_val (v := ?_) (by rfl) ?_ ?_; rotate_left; (· (intro w hC; have q := HC.out w (HB2.out.trans (hC.mono HB2.out.size)); go_simp; try with_reducible rfl)); (try simp only [Act.put, List.getElem_toArray, List.getElem_cons_succ, List.getElem_cons_zero, List.setIfInBounds_toArray, List.set_cons_zero, List.set_cons_succ]))
    (refine q_val (v := ?_) (by rfl) ?_ ?_; rotate_left; (· (intro w hC; go_simp; try with_reducible rfl)); (try simp only [Act.put, List.getElem_toArray, List.getElem_cons_succ, List.getElem_cons_zero, List.setIfInBounds_toArray, List.set_cons_zero, List.set_cons_succ]))
    (refine q_val (v := kyV x.vid x.mac) (by rfl) (fun w hC => run_loadRange 63 _ rfl g 0 rfl (kyA x.vid x.mac) _ (se_range (HK.out w (HB2.out.trans (hC.mono HB2.out.size)))) Tryd.underlying63 rfl SZ.out) ?_; (try simp only [Act.put, List.getElem_toArray, List.getElem_cons_succ, List.getElem_cons_zero, List.setIfInBounds_toArray, List.set_cons_zero, List.set_cons_succ]))
    (refine q_val (v := ?_) (by rfl) ?_ ?_; rotate_left; (· (intro w hC; have q := HL.out w (HB2.out.trans (hC.mono HB2.out.size)); go_simp; try with_reducible rfl)); (try simp only [Act.put, List.getElem_toArray, List.getElem_cons_succ, List.getElem_cons_zero, List.setIfInBounds_toArray, List.set_cons_zero, List.set_cons_succ]))
    (refine q_val (v := ?_) (by rfl) ?_ ?_; rotate_left; (· (intro w hC; go_simp; try with_reducible rfl)); (try simp only [Act.put, List.getElem_toArray, List.getElem_cons_succ, List.getElem_cons_zero, List.setIfInBounds_toArray, List.set_cons_zero, List.set_cons_succ]))
    (refine q_val (v := ?_) (by rfl) ?_ ?_; rotate_left; (· (intro w hC; go_simp; try with_reducible rfl)); (try simp only [Act.put, List.getElem_toArray, List.getElem_cons_succ, List.getElem_cons_zero, List.setIfInBounds_toArray, List.set_cons_zero, List.set_cons_succ]))
    (refine q_val (v := ?_) (by rfl) ?_ ?_; rotate_left; (· (intro w hC; go_simp; try with_reducible rfl)); (try simp only [Act.put, List.getElem_toArray, List.getElem_cons_succ, List.getElem_cons_zero, List.setIfInBounds_toArray, List.set_cons_zero, List.set_cons_succ]))
    (refine q_val (v := ?_) (by rfl) ?_ ?_; rotate_left; (· (intro w hC; go_simp; try with_reducible rfl)); (try simp only [Act.put, List.getElem_toArray, List.getElem_cons_succ, List.getElem_cons_zero, List.setIfInBounds_toArray, List.set_cons_zero, List.set_cons_succ]))
    (refine q_val (v := ?_) (by rfl) ?_ ?_; rotate_left; (· (intro w hC; go_simp; try with_reducible rfl)); (try simp only [Act.put, List.getElem_toArray, List.getElem_cons_succ, List.getElem_cons_zero, List.setIfInBounds_toArray, List.set_cons_zero, List.set_cons_succ]))
    refine wpQuiet_nil ?_
    intro w4 hC4
    have K4 := Lib.hid (HB2.out.trans (hC4.mono HB2.out.size))
    clear hC4
    go_upto_region 9 with fail
    refine wp_region_last 8 (I := St33I b mb g x _ _ _ _ _ _ _ _ _ _ _ _ _ _ _ _ _ _ _ _ _ _ _ _ _ _ _ _ _ _ _ _ _) (by kernel_rfl) (by kernel_rfl) (by kernel_rfl) ⟨_, _, _, _, _, _, _, _, rfl, ⟨(fun h => Bool.noConfusion h), (fun h => Bool.noConfusion h), (fun h => Bool.noConfusion h), (fun h => Bool.noConfusion h), (fun h => Bool.noConfusion h), (fun h => Bool.noConfusion h), (fun h => Bool.noConfusion h), (fun h => Bool.noConfusion h)⟩⟩ ?_
    intro w5 hb5
    have hb6 := K4.out.trans (hb5.mono K4.out.size)
    have hc5 := HC.out w5 hb6
    have hk5 := HK.out w5 hb6
    have hc7 := hk5.cell 7
    simp only [List.getElem?_toArray, List.getElem?_cons_zero, List.getElem?_cons_succ] at hc7
    have HB6 := Lib.hid hb6
    clear hb6
    refine ⟨?_, ?_⟩
    · intro i hi Lx ac hI hL haft
      obtain ⟨v35, v36, v37, v38, v39, v40, v41, v42, rfl, hs⟩ := hI
      match i, hi with
      | 0, _ =>
        exact i_val rfl (.pointer (some ⟨b, 0, none⟩)) w5 (by rfl) (by go_simp) ⟨⟨(.pointer (some ⟨b, 0, none⟩)), v36, v37, v38, v39, v40, v41, v42, rfl, { hs with e35 := fun _ => rfl }⟩, rfl⟩
      | 1, _ =>
        have e35x := hs.e35 (haft 0 (by decide))
        subst e35x
        exact i_val rfl (.pointer (some ⟨b, 0, none⟩)) w5 (by rfl) (by go_simp) ⟨⟨(.pointer (some ⟨b, 0, none⟩)), (.pointer (some ⟨b, 0, none⟩)), v37, v38, v39, v40, v41, v42, rfl, { hs with e36 := fun _ => rfl }⟩, rfl⟩
      | 2, _ =>
        have e36x := hs.e36 (haft 1 (by decide))
        subst e36x
        exact i_val rfl (.pointer (some ⟨b, 0, none⟩)) w5 (by rfl) (by go_simp) ⟨⟨v35, (.pointer (some ⟨b, 0, none⟩)), (.pointer (some ⟨b, 0, none⟩)), v38, v39, v40, v41, v42, rfl, { hs with e37 := fun _ => rfl }⟩, rfl⟩
      | 3, _ =>
        have e37x := hs.e37 (haft 2 (by decide))
        subst e37x
        have q := hc5
        exact i_val rfl (.map (some mb)) w5 (by rfl) (by go_simp) ⟨⟨v35, v36, (.pointer (some ⟨b, 0, none⟩)), (.map (some mb)), v39, v40, v41, v42, rfl, { hs with e38 := fun _ => rfl }⟩, rfl⟩
      | 4, _ =>
        exact i_val rfl (.pointer (some ⟨g, 0, none⟩)) w5 (by rfl) (by go_simp) ⟨⟨v35, v36, v37, v38, (.pointer (some ⟨g, 0, none⟩)), v40, v41, v42, rfl, { hs with e39 := fun _ => rfl }⟩, rfl⟩
      | 5, _ =>
        have e39x := hs.e39 (haft 4 (by decide))
        subst e39x
        exact i_val rfl (kyV x.vid x.mac) w5 (by rfl) (run_loadRange 63 _ rfl g 0 rfl (kyA x.vid x.mac) _ (se_range hk5) Tryd.underlying63 rfl SZ.out) ⟨⟨v35, v36, v37, v38, (.pointer (some ⟨g, 0, none⟩)), (kyV x.vid x.mac), v41, v42, rfl, { hs with e40 := fun _ => rfl }⟩, rfl⟩
      | 6, _ =>
        exact i_val rfl (.pointer (some ⟨g, 7, none⟩)) w5 (by rfl) (by go_simp) ⟨⟨v35, v36, v37, v38, v39, v40, (.pointer (some ⟨g, 7, none⟩)), v42, rfl, { hs with e41 := fun _ => rfl }⟩, rfl⟩
      | 7, _ =>
        have e41x := hs.e41 (haft 6 (by decide))
        subst e41x
        have q := hc7
        exact i_val rfl (.int .u32 (x.prt : Nat)) w5 (by rfl) (by go_simp) ⟨⟨v35, v36, v37, v38, v39, v40, (.pointer (some ⟨g, 7, none⟩)), (.int .u32 (x.prt : Nat)), rfl, { hs with e42 := fun _ => rfl }⟩, rfl⟩
      | k + 8, h =>
        exfalso
        have h2 : k + 8 < 8 := h
        omega
    intro Lx ac hI hall
    obtain ⟨v35, v36, v37, v38, v39, v40, v41, v42, rfl, hs⟩ := hI
    have e35y := hs.e35 (hall 0 (by decide))
    subst e35y
    have e36y := hs.e36 (hall 1 (by decide))
    subst e36y
    have e37y := hs.e37 (hall 2 (by decide))
    subst e37y
    have e38y := hs.e38 (hall 3 (by decide))
    subst e38y
    have e39y := hs.e39 (hall 4 (by decide))
    subst e39y
    have e40y := hs.e40 (hall 5 (by decide))
    subst e40y
    have e41y := hs.e41 (hall 6 (by decide))
    subst e41y
    have e42y := hs.e42 (hall 7 (by decide))
    subst e42y
    clear hs hall
    obtain ⟨o, hd, ht⟩ := (H5.out.next HB6.out).put ky_keys Tryd.underlying118 (keyN x.vid x.mac) x trivial (fun _ _ => trivial)
    rw [kvK_of x.vid x.mac hx] at hd
    have HT := Lib.hid ht
    clear ht hc5 hk5 hc7
    unfold vvS at hd
    refine i_skip rfl (setBlock w5 mb o) (by rfl) (by go_simp) ?_
    clear hd
    go_wp2_with fail
    go_ret
    refine ⟨ret_int R1.out, ?_⟩
    exact TS.turned h1 h2 h3 H4.out hB (HB1.out.trans (HB6.out.mono HB1.out.size)) HT.out HRK.out (setS_good h7 hx)
theorem nil_get10 (w : World) : Calls Tryd.prog 49 #[.pointer none, .agg #[.int .u16 0, .int .u8 0, .int .u8 0, .int .u8 0, .int .u8 0, .int .u8 0, .int .u8 0]] w fun e w' => e = .returned (.tuple #[.int .u32 0, .bool false]) ∧ Below w.heap.size w w' := by
  have HB := Lib.hid ((Below.refl w.heap.size w).alloc (Nat.le_refl _) (.cells #[.int .u16 0, .int .u8 0, .int .u8 0, .int .u8 0, .int .u8 0, .int .u8 0, .int .u8 0] 63))
  go_enter Tryd.func49, Tryd.ntmps49
  go_wp2
  go_ret2
  exact ⟨rfl, HB.out⟩
theorem nil_set10 (w : World) : Calls Tryd.prog 26 #[.pointer none, .agg #[.int .u16 1, .int .u8 0, .int .u8 0, .int .u8 0, .int .u8 0, .int .u8 0, .int .u8 0, .int .u32 0]] w fun e w' => e = .returned (.int .i64 1) ∧ Below w.heap.size w w' := by
  have HB := Lib.hid ((Below.refl w.heap.size w).alloc (Nat.le_refl _) (.cells #[.int .u16 1, .int .u8 0, .int .u8 0, .int .u8 0, .int .u8 0, .int .u8 0, .int .u8 0, .int .u32 0] 95))
  go_enter Tryd.func26, Tryd.ntmps26
  go_wp2
  go_ret
  exact ⟨rfl, HB.out⟩
end
section
/- Lists put together anew by appends, in whatever order their parts come up; no program in sight. -/
open Go.RowKit

/-- What is known of a slice's type t, of elements e. -/
structure ElT {α : Type} (P : Program) (t e : TypeId) (size : Nat) (enc : α → List Value) : Prop where
  ht : P.underlying t = some (.slice e)
  info : ∃ i z b, P.info? e = some i ∧ i.zero = some z ∧ i.size = size ∧ i.bytes = b ∧ z.cells.size = size ∧ b ≤ 1000
  pos : 0 < size
  len : ∀ x, (enc x).length = size
  one : ∀ x, ∀ u ∈ enc x, u.oneCell' = true

section
variable {α : Type} {P : Program} {t e : TypeId} {size : Nat} {enc : α → List Value} {w w' w0 : World} {base Z : Nat}
theorem ElT.app (E : ElT P t e size enc) {v sv : Value} {l news : List α} (h : Own w base e size enc v l) (hs : Src w enc sv news) (hl : l.length + news.length ≤ 2000) (hb : base ≤ w.heap.size) (ty : TypeId) :
    ∃ v' w', (Builtin.append_ #[t, t] ty #[v, sv]).run P w = .ok v' w' ∧ Own w' base e size enc v' (l ++ news) ∧ w.grownBy w' v.ownBlock ∧ (v'.ownBlock = v.ownBlock ∨ v'.ownBlock = some w.heap.size) := by
  obtain ⟨i, z, b, h1, h2, h3, h4, h5, h6⟩ := E.info
  exact h.app hs E.ht h1 h2 h3 h4 h5 E.pos E.len E.one (by unfold maxLen; omega) (by
    have : (l.length + news.length) * b ≤ 2000 * 1000 := Nat.mul_le_mul hl h6
    omega) hb
theorem grownBelow {a b : World} {row : Option Nat} {B : Nat} {w0 : World} (h0 : Below B w0 a) (h : a.grownBy b row) (hr : ∀ k, row = some k → B ≤ k) (hB : B ≤ a.heap.size) : Below B w0 b := h0.grown h hB hr

/-- A list in two parts and one between them: A, x, B. The bits: the first slice is made, the first append, the one is made, the second append, the last one. -/
structure InsW (e : TypeId) (size : Nat) (enc : α → List Value) (w0 : World) (A : List α) (x : α) (B : List α) (a0 a4 a6 a7 a11 : Bool) (v0 v4 v6 v7 v11 : Value) (w : World) : Prop where
  below : Below w0.heap.size w0 w
  p0 : a0 = true → a4 = false → Own w w0.heap.size e size enc v0 []
  p4 : a4 = true → a7 = false → Own w w0.heap.size e size enc v4 A
  p6 : a6 = true → a7 = false → Own w w0.heap.size e size enc v6 [x]
  n0 : a6 = true → a0 = true → a4 = false → ∀ g, v6.ownBlock = some g → v0.ownBlock ≠ some g
  n4 : a6 = true → a4 = true → a7 = false → ∀ g, v6.ownBlock = some g → v4.ownBlock ≠ some g
  p7 : a7 = true → a11 = false → Own w w0.heap.size e size enc v7 (A ++ [x])
  p11 : a11 = true → Own w w0.heap.size e size enc v11 (A ++ [x] ++ B)
  o4 : a4 = true → a0 = true
  o7 : a7 = true → a4 = true ∧ a6 = true
  o11 : a11 = true → a7 = true

variable {A B : List α} {x : α} {a0 a4 a6 a7 a11 : Bool} {v0 v4 v6 v7 v11 : Value}
theorem InsW.start (w : World) : InsW e size enc w A x B false false false false false v0 v4 v6 v7 v11 w.drew :=
  ⟨(Below.refl _ _).drew, (fun h => Bool.noConfusion h), (fun h => Bool.noConfusion h), (fun h => Bool.noConfusion h), (fun h => Bool.noConfusion h), (fun h => Bool.noConfusion h), (fun h => Bool.noConfusion h), (fun h => Bool.noConfusion h), (fun h => Bool.noConfusion h), (fun h => Bool.noConfusion h), (fun h => Bool.noConfusion h)⟩

theorem InsW.make0 (h : InsW e size enc w0 A x B a0 a4 a6 a7 a11 v0 v4 v6 v7 v11 w) (hn : a0 = false) : InsW e size enc w0 A x B true a4 a6 a7 a11 (.slice (some ⟨w.heap.size, 0, none⟩) 0 0) v4 v6 v7 v11 (w.alloc (.cells #[] e)) := by
  have h4 : a4 = false := by cases c : a4 with | false => rfl | true => have := h.o4 c; rw [hn] at this; cases this
  have h7 : a7 = false := by cases c : a7 with | false => rfl | true => have := (h.o7 c).1; rw [h4] at this; cases this
  have h11 : a11 = false := by cases c : a11 with | false => rfl | true => have := h.o11 c; rw [h7] at this; cases this
  subst h4 h7 h11
  refine ⟨h.below.alloc h.below.size _, fun _ _ => Own.made w h.below.size enc, fun q => (by cases q), fun q r => (h.p6 q r).alloc _, fun q _ _ g hg => ?_, fun _ q => (by cases q), fun q => (by cases q), fun q => (by cases q), fun _ => rfl, fun q => (by cases q), fun q => (by cases q)⟩
  have := ((h.p6 q rfl).lt g hg).2
  intro e
  simp [Value.ownBlock] at e
  omega
theorem InsW.make6 (E : ElT P t e size enc) (h : InsW e size enc w0 A x B a0 a4 a6 a7 a11 v0 v4 v6 v7 v11 w) (hn : a6 = false) (arr : Array Value) (ha : arr.toList = enc x) : InsW e size enc w0 A x B a0 a4 true a7 a11 v0 v4 (.slice (some ⟨w.heap.size, 0, none⟩) 1 1) v7 v11 (w.alloc (.cells arr e)) := by
  have h7 : a7 = false := by cases c : a7 with | false => rfl | true => have := (h.o7 c).2; rw [hn] at this; cases this
  have h11 : a11 = false := by cases c : a11 with | false => rfl | true => have := h.o11 c; rw [h7] at this; cases this
  subst h7 h11
  refine ⟨h.below.alloc h.below.size _, fun q r => (h.p0 q r).alloc _, fun q r => (h.p4 q r).alloc _, fun _ _ => ?_, fun _ q r g hg => ?_, fun _ q r g hg => ?_, fun q => (by cases q), fun q => (by cases q), h.o4, fun q => (by cases q), fun q => (by cases q)⟩
  · have := Own.lit (e := e) (base := w0.heap.size) w h.below.size E.len [x] (by simp [maxLen])
    have e1 : (cellsL enc [x]).toArray = arr := by
      have : cellsL enc [x] = enc x := by simp [cellsL]
      rw [this, ← ha]
    rw [e1] at this
    exact this
  · have := (h.p0 q r).lt
    intro c
    have := (this g c).2
    simp [Value.ownBlock] at hg
    omega
  · have := (h.p4 q r).lt
    intro c
    have := (this g c).2
    simp [Value.ownBlock] at hg
    omega
theorem InsW.app4 (E : ElT P t e size enc) (h : InsW e size enc w0 A x B a0 a4 a6 a7 a11 v0 v4 v6 v7 v11 w) (h0 : a0 = true) (hn : a4 = false) {sv : Value} (hs : Src w enc sv A) (hl : A.length ≤ 1000) (ty : TypeId) :
    ∃ v' w', (Builtin.append_ #[t, t] ty #[v0, sv]).run P w = .ok v' w' ∧ InsW e size enc w0 A x B a0 true a6 a7 a11 v0 v' v6 v7 v11 w' := by
  have h7 : a7 = false := by cases c : a7 with | false => rfl | true => have := (h.o7 c).1; rw [hn] at this; cases this
  have h11 : a11 = false := by cases c : a11 with | false => rfl | true => have := h.o11 c; rw [h7] at this; cases this
  subst h7 h11
  obtain ⟨v', w', hr, ho, hg, hv⟩ := E.app (h.p0 h0 hn) hs (by simp; omega) h.below.size ty
  refine ⟨v', w', hr, ⟨grownBelow h.below hg (fun k e => ((h.p0 h0 hn).lt k e).1) h.below.size, fun _ q => (by cases q), fun _ _ => ho, fun q r => ?_, fun _ _ q => (by cases q), fun q _ r g hg6 => ?_, fun q => (by cases q), fun q => (by cases q), fun _ => h0, fun q => (by cases q), fun q => (by cases q)⟩⟩
  · refine (h.p6 q r).kept hg ?_
    cases c : v6.ownBlock with
    | none => exact .inl rfl
    | some g => exact .inr (fun e => h.n0 q h0 hn g c e.symm)
  · rcases hv with c | c
    · rw [c]; exact h.n0 q h0 hn g hg6
    · rw [c]
      intro e
      have := ((h.p6 q r).lt g hg6).2
      injection e with e
      omega
theorem InsW.app7 (E : ElT P t e size enc) (h : InsW e size enc w0 A x B a0 a4 a6 a7 a11 v0 v4 v6 v7 v11 w) (h4 : a4 = true) (h6 : a6 = true) (hn : a7 = false) (hl : A.length ≤ 1000) (ty : TypeId) :
    ∃ v' w', (Builtin.append_ #[t, t] ty #[v4, v6]).run P w = .ok v' w' ∧ InsW e size enc w0 A x B a0 a4 a6 true a11 v0 v4 v6 v' v11 w' := by
  have h11 : a11 = false := by cases c : a11 with | false => rfl | true => have := h.o11 c; rw [hn] at this; cases this
  subst h11
  obtain ⟨v', w', hr, ho, hg, hv⟩ := E.app (h.p4 h4 hn) (h.p6 h6 hn).src (by simp; omega) h.below.size ty
  exact ⟨v', w', hr, ⟨grownBelow h.below hg (fun k e => ((h.p4 h4 hn).lt k e).1) h.below.size, fun _ q => (by rw [h4] at q; cases q), fun _ q => (by cases q), fun _ q => (by cases q), fun _ _ q => (by rw [h4] at q; cases q), fun _ _ q => (by cases q), fun _ _ => ho, fun q => (by cases q), h.o4, fun _ => ⟨h4, h6⟩, fun q => (by cases q)⟩⟩
theorem InsW.app11 (E : ElT P t e size enc) (h : InsW e size enc w0 A x B a0 a4 a6 a7 a11 v0 v4 v6 v7 v11 w) (h7 : a7 = true) (hn : a11 = false) {sv : Value} (hs : Src w enc sv B) (hl : A.length + B.length ≤ 1000) (ty : TypeId) :
    ∃ v' w', (Builtin.append_ #[t, t] ty #[v7, sv]).run P w = .ok v' w' ∧ InsW e size enc w0 A x B a0 a4 a6 a7 true v0 v4 v6 v7 v' w' := by
  obtain ⟨h4, h6⟩ := h.o7 h7
  obtain ⟨v', w', hr, ho, hg, hv⟩ := E.app (h.p7 h7 hn) hs (by simp; omega) h.below.size ty
  exact ⟨v', w', hr, ⟨grownBelow h.below hg (fun k e => ((h.p7 h7 hn).lt k e).1) h.below.size, fun _ q => (by rw [h4] at q; cases q), fun _ q => (by rw [h7] at q; cases q), fun _ q => (by rw [h7] at q; cases q), fun _ _ q => (by rw [h4] at q; cases q), fun _ _ q => (by rw [h7] at q; cases q), fun _ q => (by cases q), fun _ => ho, h.o4, h.o7, fun _ => h7⟩⟩
end
end
section
/- Entries of layer 9, and the document's own Less, good, At. -/
open Go.RowKit
attribute [local irreducible] wpQuiet

/-- An entry: its VLAN, its address as a number, its port, its age. -/
structure En where
  vid : Nat
  mac : Nat
  port : Int
  age : Int
deriving DecidableEq
def enK (x : En) : Nat := keyN x.vid x.mac
def enOk (x : En) : Prop := x.mac < 281474976710656
abbrev enA (x : En) : Array Value := #[.int .u16 (x.vid : Nat), .int .u8 (byteF x.mac 0 : Nat), .int .u8 (byteF x.mac 1 : Nat), .int .u8 (byteF x.mac 2 : Nat), .int .u8 (byteF x.mac 3 : Nat), .int .u8 (byteF x.mac 4 : Nat), .int .u8 (byteF x.mac 5 : Nat), .int .i64 x.port, .int .i64 x.age]
def enC (x : En) : List Value := (enA x).toList
abbrev enV (x : En) : Value := .agg (enA x)
theorem enC_len (x : En) : (enC x).length = 9 := rfl
theorem enC_one (x : En) : ∀ u ∈ enC x, u.oneCell' = true := by
  intro u hu
  simp only [enC, List.mem_cons, List.not_mem_nil, or_false] at hu
  rcases hu with rfl | rfl | rfl | rfl | rfl | rfl | rfl | rfl | rfl <;> rfl
theorem enA_one (x : En) : (enA x).all (·.oneCell') = true := by simp [Value.oneCell']
theorem en_mac (x : En) (j : Nat) (u : Value) (h : (macA (byteF x.mac))[j]? = some u) : (enC x)[1 + j]? = some u := by
  match j, h with
  | 0, h => exact h
  | 1, h => exact h
  | 2, h => exact h
  | 3, h => exact h
  | 4, h => exact h
  | 5, h => exact h
  | j + 6, h => simp at h
/-- May an entry be? -/
def goodE (x : En) : Bool := decide (byteF x.mac 0 % 2 = 0) && decide (1 ≤ x.port) && decide (x.port ≤ 16)
end
section
/- The developers' table: a map of its entries. -/
open Go.RowKit
open Go.ChangeMaps (setBlock)

/-- What the map holds for a key. -/
def vvE (x : En) : Value := enV x
/-- The developers' table: a block with a map of these entries. -/
def TF (w : World) (b A B : Nat) (mo li : Int) (l : List En) : Prop :=
  ∃ (mb : Nat) (L : List (Nat × En)), (A ≤ b ∧ b < B) ∧ (A ≤ mb ∧ mb < B) ∧ b ≠ mb ∧ Blk w b #[.int .i64 mo, .int .i64 li, .map (some mb)] 105 ∧ Tb w mb kvK vvE L ∧ RelK enK L l ∧ (∀ x ∈ l, enOk x)
theorem TF.keep {w w' : World} {b A B : Nat} {mo li : Int} {l : List En} (h : TF w b A B mo li l) (hk : ∀ k, A ≤ k → k < B → w'.heap[k]? = w.heap[k]?) : TF w' b A B mo li l := by
  obtain ⟨mb, L, h1, h2, h3, h4, h5, h6, h7⟩ := h
  exact ⟨mb, L, h1, h2, h3, (hk b h1.1 h1.2).trans h4, h5.same (hk mb h2.1 h2.2), h6, h7⟩
theorem TF.next {w w' : World} {b A B : Nat} {mo li : Int} {l : List En} (h : TF w b A B mo li l) (hB : B ≤ w.heap.size) (hb : Below w.heap.size w w') : TF w' b A B mo li l ∧ KeptO A B w w' :=
  ⟨h.keep (fun k _ hk => hb.block k (by omega)), hb.os, hb.tape, hb.output, hb.size, fun k _ hk => hb.block k hk⟩
theorem TF.turned {w w2 : World} {b A B mb : Nat} {mo li : Int} {o : Obj} {L' : List (Nat × En)} {l' : List En} (h1 : A ≤ b ∧ b < B) (h2 : A ≤ mb ∧ mb < B) (h3 : b ≠ mb) (h4 : Blk w b #[.int .i64 mo, .int .i64 li, .map (some mb)] 105) (hB : B ≤ w.heap.size)
    (hb : Below w.heap.size w w2) (h5 : Tb (setBlock w2 mb o) mb kvK vvE L') (h6 : RelK enK L' l') (h7 : ∀ x ∈ l', enOk x) : TF (setBlock w2 mb o) b A B mo li l' ∧ KeptO A B w (setBlock w2 mb o) := by
  have hg := setBlock_grown w2 mb o
  refine ⟨⟨mb, L', h1, h2, h3, (h4.below hb (by omega)).grown hg (fun e => h3 (Option.some.inj e)), h5, h6, h7⟩, ?_⟩
  refine ⟨hg.os.trans hb.os, hg.tape.trans hb.tape, hg.output.trans hb.output, Nat.le_trans hb.size hg.size, fun k hk hk2 => ?_⟩
  exact (hg.block k (Nat.lt_of_lt_of_le hk2 hb.size) (fun e => by cases e; omega)).trans (hb.block k hk2)
end
end Go.Proofs.YtelohoomlgjjmaaDoor
