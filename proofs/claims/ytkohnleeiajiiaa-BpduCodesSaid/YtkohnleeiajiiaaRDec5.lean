/- A PDU from its bytes, by the document. -/
import Derived.Test.YtkohnleeiajiiaaDec5
import Derived.Test.YtkohnleeiajiiaaDecQ
import Derived.Test.YtkohnleeiajiiaaPREnc
import Derived.Test.YtkohnleeiajiiaaRef
import Derived.Deep.RegionHeld3
import Derived.Lib.IndexBytes
namespace Go.Proofs.Ytkohnleeiajiiaa
open Go.RowKit
set_option linter.unusedSimpArgs false

attribute [local irreducible] wpQuiet

/-- The result alone. -/
structure Rs (w0 : World) (B : Nat) (w : World) : Prop where
  r0 : Blk w B nil16 38
  below : Below B w0 w
theorem Rs.drew {w0 w : World} {B : Nat} (h : Rs w0 B w) : Rs w0 B w.drew := ⟨h.r0.drew, h.below.drew⟩
/-- The result and the PDU so far. -/
structure Dr (w0 : World) (B g : Nat) (q : Pd) (w : World) : Prop where
  r0 : Blk w B nil16 38
  blk : Blk w g (pdA q) 38
  below : Below B w0 w
  l : B < g
theorem Dr.drew {w0 w : World} {B g : Nat} {q : Pd} (h : Dr w0 B g q w) : Dr w0 B g q w.drew := ⟨h.r0.drew, h.blk.drew, h.below.drew, h.l⟩
theorem Dr.next {w0 w w' : World} {B g : Nat} {q : Pd} (h : Dr w0 B g q w) (hb : Below w.heap.size w w') : Dr w0 B g q w' :=
  ⟨h.r0.below hb h.r0.lt, h.blk.below hb h.blk.lt, h.below.trans (hb.mono (Nat.le_of_lt h.r0.lt)), h.l⟩
theorem Dr.put {w0 w : World} {B g : Nat} {q : Pd} (h : Dr w0 B g q w) (j : Nat) (v : Value) (q' : Pd) (e : (pdA q).setIfInBounds j v = pdA q') : Dr w0 B g q' (w.setCell ⟨g, j, none⟩ v) :=
  ⟨h.r0.other (Nat.ne_of_gt h.l) _, by rw [← e]; exact h.blk.set j v, h.below.setCell (Nat.le_of_lt h.l) _, h.l⟩

set_option maxRecDepth 100000 in
set_option maxHeartbeats 4000000 in
theorem rdecode_short (s : ByteArray) (w : World) (h7 : s.size < 7) : Calls Try.prog 18 #[.string s] w fun e w' => e = .returned (.tuple #[.agg (pdA (decP s)), .int .i64 (decE s)]) ∧ Below w.heap.size w w' := by
  have EE := Lib.hid (show decE s = 2 by unfold decE; rw [if_pos h7])
  have PP := Lib.hid (show decP s = kindP 0 by unfold decP; rw [if_neg (by rw [EE.out]; omega)])
  have h7' : (s.size : Int) < 7 := by omega
  clear h7
  have hi := Lib.hid size38
  have ho := Lib.hid nil16_one
  obtain ⟨W, hW⟩ : ∃ W, W = w.alloc (Obj.cells nil16 38) := ⟨_, rfl⟩
  have r0 := Lib.hid (show Blk W w.heap.size nil16 38 by rw [hW]; exact Blk.new _ _ _)
  have hB := Lib.hid (show Below w.heap.size w W by rw [hW]; exact (Below.refl _ _).alloc (Nat.le_refl _) _)
  have HW := Lib.hid hW
  clear hW
  go_enter Try.func18, Try.ntmps18
  go_upto_region 1 with fail
  simp only [nil16] at HW
  rw [← HW.out]
  clear HW
  go_wp2_with (refine wpList_store_row rfl 38 _ _ rfl w.heap.size nil16 rfl rfl 38 nil16 r0.out hi.out rfl ho.out ?_)
  exact bodyPost_ret (v := .tuple #[.agg nil16, .int .i64 2]) (results_row_tmp Try.results18 _ _ w.heap.size 38 nil16 _ _ rfl rfl (r0.out.row _) Try.underlying38 rfl hi.out) rfl ⟨ret_dec (by rw [PP.out]; rfl) EE.out.symm, below_setRow hB.out (Nat.le_refl _) _⟩

set_option maxRecDepth 100000 in
set_option maxHeartbeats 4000000 in
theorem rdecode_front (s : ByteArray) (w : World) (h7 : ¬ s.size < 7) (hf : ¬ s.extract 0 5 = frontS) : Calls Try.prog 18 #[.string s] w fun e w' => e = .returned (.tuple #[.agg (pdA (decP s)), .int .i64 (decE s)]) ∧ Below w.heap.size w w' := by
  have EE := Lib.hid (show decE s = 4 by unfold decE; rw [if_neg h7, if_pos hf])
  have PP := Lib.hid (show decP s = kindP 0 by unfold decP; rw [if_neg (by rw [EE.out]; omega)])
  have h7' : ¬ (s.size : Int) < 7 := by omega
  have h5 : (5 : Int) ≤ (s.size : Int) := by omega
  have hff : ((s.extract 0 5).toList == [66, 66, 3, 0, 0]) = false := by rw [text_eq, decide_eq_false_iff_not]; exact hf
  clear h7 hf
  have hi := Lib.hid size38
  have ho := Lib.hid nil16_one
  obtain ⟨W, hW⟩ : ∃ W, W = w.alloc (Obj.cells nil16 38) := ⟨_, rfl⟩
  have r0 := Lib.hid (show Blk W w.heap.size nil16 38 by rw [hW]; exact Blk.new _ _ _)
  have hB := Lib.hid (show Below w.heap.size w W by rw [hW]; exact (Below.refl _ _).alloc (Nat.le_refl _) _)
  have HW := Lib.hid hW
  clear hW
  go_enter Try.func18, Try.ntmps18
  go_upto_region 1 with fail
  simp only [nil16] at HW
  rw [← HW.out]
  clear HW
  go_wp2_with (refine wpList_store_row rfl 38 _ _ rfl w.heap.size nil16 rfl rfl 38 nil16 r0.out hi.out rfl ho.out ?_)
  exact bodyPost_ret (v := .tuple #[.agg nil16, .int .i64 4]) (results_row_tmp Try.results18 _ _ w.heap.size 38 nil16 _ _ rfl rfl (r0.out.row _) Try.underlying38 rfl hi.out) rfl ⟨ret_dec (by rw [PP.out]; rfl) EE.out.symm, below_setRow hB.out (Nat.le_refl _) _⟩

set_option maxRecDepth 100000 in
set_option maxHeartbeats 4000000 in
theorem rdecode_kind (s : ByteArray) (w : World) (h7 : ¬ s.size < 7) (hf : s.extract 0 5 = frontS) (hb : ¬ (kindOk (kB s) = true ∧ vB s = verN (kB s))) : Calls Try.prog 18 #[.string s] w fun e w' => e = .returned (.tuple #[.agg (pdA (decP s)), .int .i64 (decE s)]) ∧ Below w.heap.size w w' := by
  have EE := Lib.hid (show decE s = 8 by unfold decE; rw [if_neg h7, if_neg (by rw [hf]; simp), if_pos hb])
  have PP := Lib.hid (show decP s = kindP 0 by unfold decP; rw [if_neg (by rw [EE.out]; omega)])
  have h7' : ¬ (s.size : Int) < 7 := by omega
  have h5 : (5 : Int) ≤ (s.size : Int) := by omega
  have hff : ((s.extract 0 5).toList == [66, 66, 3, 0, 0]) = true := by rw [text_eq, decide_eq_true_eq]; exact hf
  have b5 : 5 < s.size := by omega
  have b6 : 6 < s.size := by omega
  have b5i : (5 : Int) < (s.size : Int) := by omega
  have b6i : (6 : Int) < (s.size : Int) := by omega
  obtain ⟨k, hk⟩ : ∃ k, k = kB s := ⟨_, rfl⟩
  obtain ⟨v, hv⟩ : ∃ v, v = vB s := ⟨_, rfl⟩
  rw [← hk, ← hv] at hb
  have K6 := Lib.hid (show s[6].toNat = k from (byteAt_get s 6 b6).trans hk.symm)
  have V5 := Lib.hid (show s[5].toNat = v from (byteAt_get s 5 b5).trans hv.symm)
  clear hk hv h7 hf
  have hi := Lib.hid size38
  have ho := Lib.hid nil16_one
  obtain ⟨W, hW⟩ : ∃ W, W = w.alloc (Obj.cells nil16 38) := ⟨_, rfl⟩
  have r0 := Lib.hid (show Blk W w.heap.size nil16 38 by rw [hW]; exact Blk.new _ _ _)
  have hB := Lib.hid (show Below w.heap.size w W by rw [hW]; exact (Below.refl _ _).alloc (Nat.le_refl _) _)
  have HW := Lib.hid hW
  clear hW
  go_enter Try.func18, Try.ntmps18
  go_upto_region 1 with fail
  simp only [nil16] at HW
  rw [← HW.out]
  clear HW
  go_upto_region 5 with fail
  have R0 := Rs.drew (w := W) ⟨r0.out, hB.out⟩
  refine wp_region_quiet (C := Rs w w.heap.size) (by kernel_rfl) (by kernel_rfl) R0 ?_
  (refine q_val (v := ?_) (by rfl) ?_ ?_; rotate_left; (· (intro w hC; go_simp; try with_reducible rfl)); (try simp only [Act.put, List.getElem_toArray, List.getElem_cons_succ, List.getElem_cons_zero, List.setIfInBounds_toArray, List.set_cons_zero, List.set_cons_succ]))
  (refine q_val (v := ?_) (by rfl) ?_ ?_; rotate_left; (· (intro w hC; have b := b6i; have b2 := b6; go_simp; try with_reducible rfl)); (try simp only [Act.put, List.getElem_toArray, List.getElem_cons_succ, List.getElem_cons_zero, List.setIfInBounds_toArray, List.set_cons_zero, List.set_cons_succ]))
  (refine q_val (v := ?_) (by rfl) ?_ ?_; rotate_left; (· (intro w hC; go_simp; try with_reducible rfl)); (try simp only [Act.put, List.getElem_toArray, List.getElem_cons_succ, List.getElem_cons_zero, List.setIfInBounds_toArray, List.set_cons_zero, List.set_cons_succ]))
  (refine q_val (v := ?_) (by rfl) ?_ ?_; rotate_left; (· (intro w hC; have b := b5i; have b2 := b5; go_simp; try with_reducible rfl)); (try simp only [Act.put, List.getElem_toArray, List.getElem_cons_succ, List.getElem_cons_zero, List.setIfInBounds_toArray, List.set_cons_zero, List.set_cons_succ]))
  (refine q_val (v := ?_) (by rfl) ?_ ?_; rotate_left; (· (intro w hC; go_simp; try with_reducible rfl)); (try simp only [Act.put, List.getElem_toArray, List.getElem_cons_succ, List.getElem_cons_zero, List.setIfInBounds_toArray, List.set_cons_zero, List.set_cons_succ]))
  (refine q_val (v := ?_) (by rfl) ?_ ?_; rotate_left; (· (intro w hC; go_simp; try with_reducible rfl)); (try simp only [Act.put, List.getElem_toArray, List.getElem_cons_succ, List.getElem_cons_zero, List.setIfInBounds_toArray, List.set_cons_zero, List.set_cons_succ]))
  refine wpQuiet_nil ?_
  intro w5 hC
  rw [K6.out, V5.out]
  have R := Lib.hid hC
  clear hC R0 r0 hB
  by_cases hk : k = 0
  · have hvn : ¬ v = 0 := fun h => hb (by rw [hk, h]; exact ⟨rfl, rfl⟩)
    have e0 : ((k : Int) != 0) = false := by rw [hk]; rfl
    have e2 : ((k : Int) != 2) = true := by rw [hk]; rfl
    have e128 : ((k : Int) != 128) = true := by rw [hk]; rfl
    have q2 : ((k : Int) == 2) = false := by rw [hk]; rfl
    have q128 : ((k : Int) == 128) = false := by rw [hk]; rfl
    have ev : ((v : Int) != 0) = true := by simp; omega
    clear hb hk hvn
    go_wp2_with (refine wpList_store_row rfl 38 _ _ rfl w.heap.size nil16 rfl rfl 38 nil16 R.out.r0 hi.out rfl ho.out ?_)
    exact bodyPost_ret (v := .tuple #[.agg nil16, .int .i64 8]) (results_row_tmp Try.results18 _ _ w.heap.size 38 nil16 _ _ rfl rfl (R.out.r0.row _) Try.underlying38 rfl hi.out) rfl ⟨ret_dec (by rw [PP.out]; rfl) EE.out.symm, below_setRow R.out.below (Nat.le_refl _) _⟩
  have h0 := hk
  clear hk
  by_cases hk : k = 2
  · have hvn : ¬ v = 2 := fun h => hb (by rw [hk, h]; exact ⟨rfl, rfl⟩)
    have e0 : ((k : Int) != 0) = true := by rw [hk]; rfl
    have e2 : ((k : Int) != 2) = false := by rw [hk]; rfl
    have e128 : ((k : Int) != 128) = true := by rw [hk]; rfl
    have q2 : ((k : Int) == 2) = true := by rw [hk]; rfl
    have q128 : ((k : Int) == 128) = false := by rw [hk]; rfl
    have ev : ((v : Int) != 2) = true := by simp; omega
    clear hb hk hvn
    go_wp2_with (refine wpList_store_row rfl 38 _ _ rfl w.heap.size nil16 rfl rfl 38 nil16 R.out.r0 hi.out rfl ho.out ?_)
    exact bodyPost_ret (v := .tuple #[.agg nil16, .int .i64 8]) (results_row_tmp Try.results18 _ _ w.heap.size 38 nil16 _ _ rfl rfl (R.out.r0.row _) Try.underlying38 rfl hi.out) rfl ⟨ret_dec (by rw [PP.out]; rfl) EE.out.symm, below_setRow R.out.below (Nat.le_refl _) _⟩
  have h2 := hk
  clear hk
  by_cases hk : k = 128
  · have hvn : ¬ v = 0 := fun h => hb (by rw [hk, h]; exact ⟨rfl, rfl⟩)
    have e0 : ((k : Int) != 0) = true := by rw [hk]; rfl
    have e2 : ((k : Int) != 2) = true := by rw [hk]; rfl
    have e128 : ((k : Int) != 128) = false := by rw [hk]; rfl
    have q2 : ((k : Int) == 2) = false := by rw [hk]; rfl
    have q128 : ((k : Int) == 128) = true := by rw [hk]; rfl
    have ev : ((v : Int) != 0) = true := by simp; omega
    clear hb hk hvn
    go_wp2_with (refine wpList_store_row rfl 38 _ _ rfl w.heap.size nil16 rfl rfl 38 nil16 R.out.r0 hi.out rfl ho.out ?_)
    exact bodyPost_ret (v := .tuple #[.agg nil16, .int .i64 8]) (results_row_tmp Try.results18 _ _ w.heap.size 38 nil16 _ _ rfl rfl (R.out.r0.row _) Try.underlying38 rfl hi.out) rfl ⟨ret_dec (by rw [PP.out]; rfl) EE.out.symm, below_setRow R.out.below (Nat.le_refl _) _⟩
  have h128 := hk
  clear hk
  have e0 : ((k : Int) != 0) = true := by simp; omega
  have e2 : ((k : Int) != 2) = true := by simp; omega
  have e128 : ((k : Int) != 128) = true := by simp; omega
  have q2 : ((k : Int) == 2) = false := by simp; omega
  have q128 : ((k : Int) == 128) = false := by simp; omega
  go_wp2_with (refine wpList_store_row rfl 38 _ _ rfl w.heap.size nil16 rfl rfl 38 nil16 R.out.r0 hi.out rfl ho.out ?_)
  exact bodyPost_ret (v := .tuple #[.agg nil16, .int .i64 8]) (results_row_tmp Try.results18 _ _ w.heap.size 38 nil16 _ _ rfl rfl (R.out.r0.row _) Try.underlying38 rfl hi.out) rfl ⟨ret_dec (by rw [PP.out]; rfl) EE.out.symm, below_setRow R.out.below (Nat.le_refl _) _⟩
set_option maxRecDepth 100000 in
set_option maxHeartbeats 4000000 in
theorem rdecode_128 (s : ByteArray) (w : World) (h7 : ¬ s.size < 7) (hf : s.extract 0 5 = frontS) (hk0 : kB s = 128) (hv0 : vB s = 0) : Calls Try.prog 18 #[.string s] w fun e w' => e = .returned (.tuple #[.agg (pdA (decP s)), .int .i64 (decE s)]) ∧ Below w.heap.size w w' := by
  have EE := Lib.hid (show decE s = 0 by unfold decE; rw [if_neg h7, if_neg (by rw [hf]; simp), hk0, hv0, if_neg (fun c => c ⟨rfl, rfl⟩), if_pos rfl])
  have PP := Lib.hid (show decP s = kindP (kB s) by unfold decP; rw [if_pos EE.out, if_pos hk0, hk0])
  have h7' : ¬ (s.size : Int) < 7 := by omega
  have h5 : (5 : Int) ≤ (s.size : Int) := by omega
  have hff : ((s.extract 0 5).toList == [66, 66, 3, 0, 0]) = true := by rw [text_eq, decide_eq_true_eq]; exact hf
  have b5 : 5 < s.size := by omega
  have b6 : 6 < s.size := by omega
  have b5i : (5 : Int) < (s.size : Int) := by omega
  have b6i : (6 : Int) < (s.size : Int) := by omega
  obtain ⟨k, hk⟩ : ∃ k, k = kB s := ⟨_, rfl⟩
  obtain ⟨v, hv⟩ : ∃ v, v = vB s := ⟨_, rfl⟩
  rw [← hk] at hk0
  rw [← hv] at hv0
  have K6 := Lib.hid (show s[6].toNat = k from (byteAt_get s 6 b6).trans hk.symm)
  have V5 := Lib.hid (show s[5].toNat = v from (byteAt_get s 5 b5).trans hv.symm)
  have EK := Lib.hid hk.symm
  clear hk hv h7 hf
  have e0 : ((k : Int) != 0) = true := by rw [hk0]; rfl
  have e2 : ((k : Int) != 2) = true := by rw [hk0]; rfl
  have e128 : ((k : Int) != 128) = false := by rw [hk0]; rfl
  have q2 : ((k : Int) == 2) = false := by rw [hk0]; rfl
  have q128 : ((k : Int) == 128) = true := by rw [hk0]; rfl
  have ev : ((v : Int) != 0) = false := by rw [hv0]; rfl
  clear hv0
  clear hk0
  have hi := Lib.hid size38
  have ho := Lib.hid nil16_one
  obtain ⟨W, hW⟩ : ∃ W, W = w.alloc (Obj.cells nil16 38) := ⟨_, rfl⟩
  have r0 := Lib.hid (show Blk W w.heap.size nil16 38 by rw [hW]; exact Blk.new _ _ _)
  have hB := Lib.hid (show Below w.heap.size w W by rw [hW]; exact (Below.refl _ _).alloc (Nat.le_refl _) _)
  have HW := Lib.hid hW
  clear hW
  go_enter Try.func18, Try.ntmps18
  go_upto_region 1 with fail
  simp only [nil16] at HW
  rw [← HW.out]
  clear HW
  go_upto_region 5 with fail
  have R0 := Rs.drew (w := W) ⟨r0.out, hB.out⟩
  refine wp_region_quiet (C := Rs w w.heap.size) (by kernel_rfl) (by kernel_rfl) R0 ?_
  (refine q_val (v := ?_) (by rfl) ?_ ?_; rotate_left; (· (intro w hC; go_simp; try with_reducible rfl)); (try simp only [Act.put, List.getElem_toArray, List.getElem_cons_succ, List.getElem_cons_zero, List.setIfInBounds_toArray, List.set_cons_zero, List.set_cons_succ]))
  (refine q_val (v := ?_) (by rfl) ?_ ?_; rotate_left; (· (intro w hC; have b := b6i; have b2 := b6; go_simp; try with_reducible rfl)); (try simp only [Act.put, List.getElem_toArray, List.getElem_cons_succ, List.getElem_cons_zero, List.setIfInBounds_toArray, List.set_cons_zero, List.set_cons_succ]))
  (refine q_val (v := ?_) (by rfl) ?_ ?_; rotate_left; (· (intro w hC; go_simp; try with_reducible rfl)); (try simp only [Act.put, List.getElem_toArray, List.getElem_cons_succ, List.getElem_cons_zero, List.setIfInBounds_toArray, List.set_cons_zero, List.set_cons_succ]))
  (refine q_val (v := ?_) (by rfl) ?_ ?_; rotate_left; (· (intro w hC; have b := b5i; have b2 := b5; go_simp; try with_reducible rfl)); (try simp only [Act.put, List.getElem_toArray, List.getElem_cons_succ, List.getElem_cons_zero, List.setIfInBounds_toArray, List.set_cons_zero, List.set_cons_succ]))
  (refine q_val (v := ?_) (by rfl) ?_ ?_; rotate_left; (· (intro w hC; go_simp; try with_reducible rfl)); (try simp only [Act.put, List.getElem_toArray, List.getElem_cons_succ, List.getElem_cons_zero, List.setIfInBounds_toArray, List.set_cons_zero, List.set_cons_succ]))
  (refine q_val (v := ?_) (by rfl) ?_ ?_; rotate_left; (· (intro w hC; go_simp; try with_reducible rfl)); (try simp only [Act.put, List.getElem_toArray, List.getElem_cons_succ, List.getElem_cons_zero, List.setIfInBounds_toArray, List.set_cons_zero, List.set_cons_succ]))
  refine wpQuiet_nil ?_
  intro w5 hC
  rw [K6.out, V5.out]
  have R := Lib.hid hC
  clear hC R0 r0 hB
  go_upto_region 9 with fail
  obtain ⟨w6, hw6⟩ : ∃ w6, w6 = w5.alloc (Obj.cells #[.int .u8 (k : Nat), .bool false, .bool false, .bool false, .bool false, .bool false, .bool false, .int .u8 0, .int .u64 0, .int .u32 0, .int .u64 0, .int .u16 0, .int .u16 0, .int .u16 0, .int .u16 0, .int .u16 0] 38) := ⟨_, rfl⟩
  have D := Lib.hid (show Dr w w.heap.size w5.heap.size (kindP k) w6 by rw [hw6]; exact ⟨R.out.r0.alloc _, Blk.new _ _ _, R.out.below.alloc (Nat.le_of_lt R.out.r0.lt) _, R.out.r0.lt⟩)
  rw [← hw6]
  clear hw6 R
  generalize w5.heap.size = g at *
  go_wp2_with (first
    | (refine wpList_load_row rfl 38 _ rfl g rfl 38 _ (0, 0) _ D.out.blk Try.underlying38 rfl hi.out ?_)
    | (refine wpList_store_row rfl 38 _ _ rfl w.heap.size (pdA (kindP k)) rfl rfl 38 nil16 D.out.r0 hi.out rfl (pdA_one (kindP k)) ?_))
  exact bodyPost_ret (v := .tuple #[.agg (pdA (kindP k)), .int .i64 0]) (results_row_tmp Try.results18 _ _ w.heap.size 38 (pdA (kindP k)) _ _ rfl rfl (D.out.r0.row _) Try.underlying38 rfl hi.out) rfl ⟨ret_dec (by rw [PP.out, EK.out]) EE.out.symm, below_setRow D.out.below (Nat.le_refl _) _⟩

set_option maxRecDepth 100000 in
set_option maxHeartbeats 4000000 in
theorem rdecode_less (s : ByteArray) (w : World) (h7 : ¬ s.size < 7) (hf : s.extract 0 5 = frontS) (hk1 : kB s = 0 ∨ kB s = 2) (hv1 : vB s = verN (kB s)) (hl : s.size < needN (kB s)) : Calls Try.prog 18 #[.string s] w fun e w' => e = .returned (.tuple #[.agg (pdA (decP s)), .int .i64 (decE s)]) ∧ Below w.heap.size w w' := by
  have EE := Lib.hid (show decE s = 2 by
    unfold decE
    rcases hk1 with h | h
    · rw [if_neg h7, if_neg (by rw [hf]; simp), hv1, if_neg (by rw [h]; exact fun c => c ⟨rfl, rfl⟩), if_neg (by omega), if_pos hl]
    · rw [if_neg h7, if_neg (by rw [hf]; simp), hv1, if_neg (by rw [h]; exact fun c => c ⟨rfl, rfl⟩), if_neg (by omega), if_pos hl])
  have PP := Lib.hid (show decP s = kindP 0 by unfold decP; rw [if_neg (by rw [EE.out]; omega)])
  rcases hk1 with hk0 | hk0
  · have hv0 : vB s = 0 := by rw [hv1, hk0]; rfl
    have hl2 : s.size < 38 := by rw [hk0] at hl; exact hl
    clear hv1 hl
    have h7' : ¬ (s.size : Int) < 7 := by omega
    have h5 : (5 : Int) ≤ (s.size : Int) := by omega
    have hff : ((s.extract 0 5).toList == [66, 66, 3, 0, 0]) = true := by rw [text_eq, decide_eq_true_eq]; exact hf
    have b5 : 5 < s.size := by omega
    have b6 : 6 < s.size := by omega
    have b5i : (5 : Int) < (s.size : Int) := by omega
    have b6i : (6 : Int) < (s.size : Int) := by omega
    obtain ⟨k, hk⟩ : ∃ k, k = kB s := ⟨_, rfl⟩
    obtain ⟨v, hv⟩ : ∃ v, v = vB s := ⟨_, rfl⟩
    rw [← hk] at hk0
    rw [← hv] at hv0
    have K6 := Lib.hid (show s[6].toNat = k from (byteAt_get s 6 b6).trans hk.symm)
    have V5 := Lib.hid (show s[5].toNat = v from (byteAt_get s 5 b5).trans hv.symm)
    have EK := Lib.hid hk.symm
    clear hk hv h7 hf
    have e0 : ((k : Int) != 0) = false := by rw [hk0]; rfl
    have e2 : ((k : Int) != 2) = true := by rw [hk0]; rfl
    have e128 : ((k : Int) != 128) = true := by rw [hk0]; rfl
    have q2 : ((k : Int) == 2) = false := by rw [hk0]; rfl
    have q128 : ((k : Int) == 128) = false := by rw [hk0]; rfl
    have ev : ((v : Int) != 0) = false := by rw [hv0]; rfl
    clear hv0
    clear hk0
    have hi := Lib.hid size38
    have ho := Lib.hid nil16_one
    obtain ⟨W, hW⟩ : ∃ W, W = w.alloc (Obj.cells nil16 38) := ⟨_, rfl⟩
    have r0 := Lib.hid (show Blk W w.heap.size nil16 38 by rw [hW]; exact Blk.new _ _ _)
    have hB := Lib.hid (show Below w.heap.size w W by rw [hW]; exact (Below.refl _ _).alloc (Nat.le_refl _) _)
    have HW := Lib.hid hW
    clear hW
    go_enter Try.func18, Try.ntmps18
    go_upto_region 1 with fail
    simp only [nil16] at HW
    rw [← HW.out]
    clear HW
    go_upto_region 5 with fail
    have R0 := Rs.drew (w := W) ⟨r0.out, hB.out⟩
    refine wp_region_quiet (C := Rs w w.heap.size) (by kernel_rfl) (by kernel_rfl) R0 ?_
    (refine q_val (v := ?_) (by rfl) ?_ ?_; rotate_left; (· (intro w hC; go_simp; try with_reducible rfl)); (try simp only [Act.put, List.getElem_toArray, List.getElem_cons_succ, List.getElem_cons_zero, List.setIfInBounds_toArray, List.set_cons_zero, List.set_cons_succ]))
    (refine q_val (v := ?_) (by rfl) ?_ ?_; rotate_left; (· (intro w hC; have b := b6i; have b2 := b6; go_simp; try with_reducible rfl)); (try simp only [Act.put, List.getElem_toArray, List.getElem_cons_succ, List.getElem_cons_zero, List.setIfInBounds_toArray, List.set_cons_zero, List.set_cons_succ]))
    (refine q_val (v := ?_) (by rfl) ?_ ?_; rotate_left; (· (intro w hC; go_simp; try with_reducible rfl)); (try simp only [Act.put, List.getElem_toArray, List.getElem_cons_succ, List.getElem_cons_zero, List.setIfInBounds_toArray, List.set_cons_zero, List.set_cons_succ]))
    (refine q_val (v := ?_) (by rfl) ?_ ?_; rotate_left; (· (intro w hC; have b := b5i; have b2 := b5; go_simp; try with_reducible rfl)); (try simp only [Act.put, List.getElem_toArray, List.getElem_cons_succ, List.getElem_cons_zero, List.setIfInBounds_toArray, List.set_cons_zero, List.set_cons_succ]))
    (refine q_val (v := ?_) (by rfl) ?_ ?_; rotate_left; (· (intro w hC; go_simp; try with_reducible rfl)); (try simp only [Act.put, List.getElem_toArray, List.getElem_cons_succ, List.getElem_cons_zero, List.setIfInBounds_toArray, List.set_cons_zero, List.set_cons_succ]))
    (refine q_val (v := ?_) (by rfl) ?_ ?_; rotate_left; (· (intro w hC; go_simp; try with_reducible rfl)); (try simp only [Act.put, List.getElem_toArray, List.getElem_cons_succ, List.getElem_cons_zero, List.setIfInBounds_toArray, List.set_cons_zero, List.set_cons_succ]))
    refine wpQuiet_nil ?_
    intro w5 hC
    rw [K6.out, V5.out]
    have R := Lib.hid hC
    clear hC R0 r0 hB
    go_upto_region 9 with fail
    obtain ⟨w6, hw6⟩ : ∃ w6, w6 = w5.alloc (Obj.cells #[.int .u8 (k : Nat), .bool false, .bool false, .bool false, .bool false, .bool false, .bool false, .int .u8 0, .int .u64 0, .int .u32 0, .int .u64 0, .int .u16 0, .int .u16 0, .int .u16 0, .int .u16 0, .int .u16 0] 38) := ⟨_, rfl⟩
    have D := Lib.hid (show Dr w w.heap.size w5.heap.size (kindP k) w6 by rw [hw6]; exact ⟨R.out.r0.alloc _, Blk.new _ _ _, R.out.below.alloc (Nat.le_of_lt R.out.r0.lt) _, R.out.r0.lt⟩)
    rw [← hw6]
    clear hw6 R
    generalize w5.heap.size = g at *
    have hl3 : (s.size : Int) < 38 := by omega
    clear hl2
    go_wp2_with (refine wpList_store_row rfl 38 _ _ rfl w.heap.size nil16 rfl rfl 38 nil16 D.out.r0 hi.out rfl ho.out ?_)
    exact bodyPost_ret (v := .tuple #[.agg nil16, .int .i64 2]) (results_row_tmp Try.results18 _ _ w.heap.size 38 nil16 _ _ rfl rfl (D.out.r0.row _) Try.underlying38 rfl hi.out) rfl ⟨ret_dec (by rw [PP.out]; rfl) EE.out.symm, below_setRow D.out.below (Nat.le_refl _) _⟩
  · have hv0 : vB s = 2 := by rw [hv1, hk0]; rfl
    have hl2 : s.size < 39 := by rw [hk0] at hl; exact hl
    clear hv1 hl
    have h7' : ¬ (s.size : Int) < 7 := by omega
    have h5 : (5 : Int) ≤ (s.size : Int) := by omega
    have hff : ((s.extract 0 5).toList == [66, 66, 3, 0, 0]) = true := by rw [text_eq, decide_eq_true_eq]; exact hf
    have b5 : 5 < s.size := by omega
    have b6 : 6 < s.size := by omega
    have b5i : (5 : Int) < (s.size : Int) := by omega
    have b6i : (6 : Int) < (s.size : Int) := by omega
    obtain ⟨k, hk⟩ : ∃ k, k = kB s := ⟨_, rfl⟩
    obtain ⟨v, hv⟩ : ∃ v, v = vB s := ⟨_, rfl⟩
    rw [← hk] at hk0
    rw [← hv] at hv0
    have K6 := Lib.hid (show s[6].toNat = k from (byteAt_get s 6 b6).trans hk.symm)
    have V5 := Lib.hid (show s[5].toNat = v from (byteAt_get s 5 b5).trans hv.symm)
    have EK := Lib.hid hk.symm
    clear hk hv h7 hf
    have e0 : ((k : Int) != 0) = true := by rw [hk0]; rfl
    have e2 : ((k : Int) != 2) = false := by rw [hk0]; rfl
    have e128 : ((k : Int) != 128) = true := by rw [hk0]; rfl
    have q2 : ((k : Int) == 2) = true := by rw [hk0]; rfl
    have q128 : ((k : Int) == 128) = false := by rw [hk0]; rfl
    have ev : ((v : Int) != 2) = false := by rw [hv0]; rfl
    clear hv0
    clear hk0
    have hi := Lib.hid size38
    have ho := Lib.hid nil16_one
    obtain ⟨W, hW⟩ : ∃ W, W = w.alloc (Obj.cells nil16 38) := ⟨_, rfl⟩
    have r0 := Lib.hid (show Blk W w.heap.size nil16 38 by rw [hW]; exact Blk.new _ _ _)
    have hB := Lib.hid (show Below w.heap.size w W by rw [hW]; exact (Below.refl _ _).alloc (Nat.le_refl _) _)
    have HW := Lib.hid hW
    clear hW
    go_enter Try.func18, Try.ntmps18
    go_upto_region 1 with fail
    simp only [nil16] at HW
    rw [← HW.out]
    clear HW
    go_upto_region 5 with fail
    have R0 := Rs.drew (w := W) ⟨r0.out, hB.out⟩
    refine wp_region_quiet (C := Rs w w.heap.size) (by kernel_rfl) (by kernel_rfl) R0 ?_
    (refine q_val (v := ?_) (by rfl) ?_ ?_; rotate_left; (· (intro w hC; go_simp; try with_reducible rfl)); (try simp only [Act.put, List.getElem_toArray, List.getElem_cons_succ, List.getElem_cons_zero, List.setIfInBounds_toArray, List.set_cons_zero, List.set_cons_succ]))
    (refine q_val (v := ?_) (by rfl) ?_ ?_; rotate_left; (· (intro w hC; have b := b6i; have b2 := b6; go_simp; try with_reducible rfl)); (try simp only [Act.put, List.getElem_toArray, List.getElem_cons_succ, List.getElem_cons_zero, List.setIfInBounds_toArray, List.set_cons_zero, List.set_cons_succ]))
    (refine q_val (v := ?_) (by rfl) ?_ ?_; rotate_left; (· (intro w hC; go_simp; try with_reducible rfl)); (try simp only [Act.put, List.getElem_toArray, List.getElem_cons_succ, List.getElem_cons_zero, List.setIfInBounds_toArray, List.set_cons_zero, List.set_cons_succ]))
    (refine q_val (v := ?_) (by rfl) ?_ ?_; rotate_left; (· (intro w hC; have b := b5i; have b2 := b5; go_simp; try with_reducible rfl)); (try simp only [Act.put, List.getElem_toArray, List.getElem_cons_succ, List.getElem_cons_zero, List.setIfInBounds_toArray, List.set_cons_zero, List.set_cons_succ]))
    (refine q_val (v := ?_) (by rfl) ?_ ?_; rotate_left; (· (intro w hC; go_simp; try with_reducible rfl)); (try simp only [Act.put, List.getElem_toArray, List.getElem_cons_succ, List.getElem_cons_zero, List.setIfInBounds_toArray, List.set_cons_zero, List.set_cons_succ]))
    (refine q_val (v := ?_) (by rfl) ?_ ?_; rotate_left; (· (intro w hC; go_simp; try with_reducible rfl)); (try simp only [Act.put, List.getElem_toArray, List.getElem_cons_succ, List.getElem_cons_zero, List.setIfInBounds_toArray, List.set_cons_zero, List.set_cons_succ]))
    refine wpQuiet_nil ?_
    intro w5 hC
    rw [K6.out, V5.out]
    have R := Lib.hid hC
    clear hC R0 r0 hB
    go_upto_region 9 with fail
    obtain ⟨w6, hw6⟩ : ∃ w6, w6 = w5.alloc (Obj.cells #[.int .u8 (k : Nat), .bool false, .bool false, .bool false, .bool false, .bool false, .bool false, .int .u8 0, .int .u64 0, .int .u32 0, .int .u64 0, .int .u16 0, .int .u16 0, .int .u16 0, .int .u16 0, .int .u16 0] 38) := ⟨_, rfl⟩
    have D := Lib.hid (show Dr w w.heap.size w5.heap.size (kindP k) w6 by rw [hw6]; exact ⟨R.out.r0.alloc _, Blk.new _ _ _, R.out.below.alloc (Nat.le_of_lt R.out.r0.lt) _, R.out.r0.lt⟩)
    rw [← hw6]
    clear hw6 R
    generalize w5.heap.size = g at *
    by_cases h38 : s.size < 38
    · have hl3 : (s.size : Int) < 38 := by omega
      clear hl2 h38
      go_wp2_with (refine wpList_store_row rfl 38 _ _ rfl w.heap.size nil16 rfl rfl 38 nil16 D.out.r0 hi.out rfl ho.out ?_)
      exact bodyPost_ret (v := .tuple #[.agg nil16, .int .i64 2]) (results_row_tmp Try.results18 _ _ w.heap.size 38 nil16 _ _ rfl rfl (D.out.r0.row _) Try.underlying38 rfl hi.out) rfl ⟨ret_dec (by rw [PP.out]; rfl) EE.out.symm, below_setRow D.out.below (Nat.le_refl _) _⟩
    · have hl3 : ¬ (s.size : Int) < 38 := by omega
      have hl4 : (s.size : Int) < 39 := by omega
      clear hl2 h38
      go_wp2_with (refine wpList_store_row rfl 38 _ _ rfl w.heap.size nil16 rfl rfl 38 nil16 D.out.r0 hi.out rfl ho.out ?_)
      exact bodyPost_ret (v := .tuple #[.agg nil16, .int .i64 2]) (results_row_tmp Try.results18 _ _ w.heap.size 38 nil16 _ _ rfl rfl (D.out.r0.row _) Try.underlying38 rfl hi.out) rfl ⟨ret_dec (by rw [PP.out]; rfl) EE.out.symm, below_setRow D.out.below (Nat.le_refl _) _⟩

end Go.Proofs.Ytkohnleeiajiiaa
