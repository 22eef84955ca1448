/- A PDU from its bytes, by the document: the fields. -/
import Derived.Test.YtkohnleeiajiiaaRDec5
namespace Go.Proofs.Ytkohnleeiajiiaa
open Go.RowKit
set_option linter.unusedSimpArgs false
attribute [local irreducible] wpQuiet

theorem number_at (s : ByteArray) (o k b n : Nat) (hb : b = o + k) (hk : k ≤ 8) (hn : posV s o k = n) (w : World) : Calls Try.prog 41 #[.string (s.extract o b)] w fun e w' => e = .returned (.int .u64 (n : Nat)) ∧ w = w' := by
  have h := number_any (s.extract o b) w (by simp; omega)
  rw [hb, posV_ext, hn] at h
  rw [hb]
  exact h

/-- A store of one cell. -/
theorem wp_store_cell {P : Program} {o : Oper} {a : Act} {w : World} {K : Act → World → Prop} {Q : Exit → Act → World → Prop} (ty : TypeId) (x y : Operand) (ho : o.op = .store ty x y)
    (p : Addr) (v : Value) (hx : a.eval x = .pointer (some p)) (hy : a.eval y = v) (hrun : (Instr.storeAt ty (.pointer (some p)) v).run P w = .ok () (w.setCell p v))
    (h : K (a.put o.dst undef) (w.setCell p v)) : o.wp P a w K Q := by
  unfold Oper.wp execOp
  simp only [ho, hx, hy, Sem.run_bind, Sem.run_pure, hrun, Result.andThen_ok]
  exact h

/-- A PDU with the flags of a byte, and its numbers. -/
def nmP (k f a b c d e g h i : Nat) : Pd := ⟨k, decide (f % 2 = 1), decide (f / 2 % 2 = 1), decide (f / 16 % 2 = 1), decide (f / 32 % 2 = 1), decide (f / 64 % 2 = 1), decide (f / 128 = 1), f / 4 % 4, a, b, c, d, e, g, h, i⟩

theorem decE_in (s : ByteArray) (h7 : ¬ s.size < 7) (hf : s.extract 0 5 = frontS) (hk1 : kB s = 0 ∨ kB s = 2) (hv1 : vB s = verN (kB s)) (hl : needN (kB s) ≤ s.size) :
    decE s = if ¬ (goodP (decQ s) = true ∧ (kB s = 2 → byteAt' s 38 = 0)) then 4 else 0 := by
  unfold decE
  have ko : kindOk (kB s) = true := by rcases hk1 with h | h <;> rw [h] <;> rfl
  rw [if_neg h7, if_neg (by rw [hf]; simp), if_neg (fun c => c ⟨ko, hv1⟩), if_neg (by omega), if_neg (by omega)]
theorem z_nil {a z : Nat} (h : a = z) (hz : z = 0) : ((a : Int) != 0) = false := by rw [h, hz]; rfl
theorem z_not {a z : Nat} (h : a = z) (hz : ¬ z = 0) : ((a : Int) != 0) = true := by rw [h]; simp; omega
theorem decP_in (s : ByteArray) (hk1 : kB s = 0 ∨ kB s = 2) : decP s = if decE s = 0 then decQ s else kindP 0 := by
  unfold decP
  rw [if_neg (show ¬ kB s = 128 by omega)]

set_option maxRecDepth 100000 in
set_option maxHeartbeats 4000000 in
theorem rdecode_in0 (s : ByteArray) (w : World) (h7 : ¬ s.size < 7) (hf : s.extract 0 5 = frontS) (hk0 : kB s = 0) (hv0 : vB s = 0) (hl : 38 ≤ s.size) : Calls Try.prog 18 #[.string s] w fun e w' => e = .returned (.tuple #[.agg (pdA (decP s)), .int .i64 (decE s)]) ∧ Below w.heap.size w w' := by
  obtain ⟨f, hf7⟩ : ∃ f, f = byteAt' s 7 := ⟨_, rfl⟩
  have b7 : 7 < s.size := by omega
  have b7i : (7 : Int) < (s.size : Int) := by omega
  have F7 := Lib.hid (show s[7].toNat = f from (byteAt_get s 7 b7).trans hf7.symm)
  obtain ⟨n8, hn8⟩ : ∃ n, posV s 8 8 = n := ⟨_, rfl⟩
  have N8 := Lib.hid hn8
  obtain ⟨n16, hn16⟩ : ∃ n, posV s 16 4 = n := ⟨_, rfl⟩
  have N16 := Lib.hid hn16
  obtain ⟨n20, hn20⟩ : ∃ n, posV s 20 8 = n := ⟨_, rfl⟩
  have N20 := Lib.hid hn20
  obtain ⟨n28, hn28⟩ : ∃ n, posV s 28 2 = n := ⟨_, rfl⟩
  have N28 := Lib.hid hn28
  obtain ⟨n30, hn30⟩ : ∃ n, posV s 30 2 = n := ⟨_, rfl⟩
  have N30 := Lib.hid hn30
  obtain ⟨n32, hn32⟩ : ∃ n, posV s 32 2 = n := ⟨_, rfl⟩
  have N32 := Lib.hid hn32
  obtain ⟨n34, hn34⟩ : ∃ n, posV s 34 2 = n := ⟨_, rfl⟩
  have N34 := Lib.hid hn34
  obtain ⟨n36, hn36⟩ : ∃ n, posV s 36 2 = n := ⟨_, rfl⟩
  have N36 := Lib.hid hn36
  have DQ := Lib.hid (show decQ s = nmP (kB s) f n8 n16 n20 n28 n30 n32 n34 n36 by
    rw [decQ_at s (by omega)]
    unfold atP nmP
    rw [← hf7, hn8, hn16, hn20, hn28, hn30, hn32, hn34, hn36])
  have L16 := Lib.hid (show n16 < 4294967296 from hn16 ▸ posV_lt s 16 4)
  have L28 := Lib.hid (show n28 < 65536 from hn28 ▸ posV_lt s 28 2)
  have L30 := Lib.hid (show n30 < 65536 from hn30 ▸ posV_lt s 30 2)
  have L32 := Lib.hid (show n32 < 65536 from hn32 ▸ posV_lt s 32 2)
  have L34 := Lib.hid (show n34 < 65536 from hn34 ▸ posV_lt s 34 2)
  have L36 := Lib.hid (show n36 < 65536 from hn36 ▸ posV_lt s 36 2)
  have W16 := Lib.hid (show IntKind.u32.wrap (n16 : Int) = (n16 : Nat) by have := L16.out; rw [IntKind.wrap_u32]; omega)
  have M16 := Lib.hid (show (n16 : Int) % 4294967296 = (n16 : Nat) by have := L16.out; omega)
  have W28 := Lib.hid (show IntKind.u16.wrap (n28 : Int) = (n28 : Nat) by have := L28.out; rw [IntKind.wrap_u16]; omega)
  have M28 := Lib.hid (show (n28 : Int) % 65536 = (n28 : Nat) by have := L28.out; omega)
  have W30 := Lib.hid (show IntKind.u16.wrap (n30 : Int) = (n30 : Nat) by have := L30.out; rw [IntKind.wrap_u16]; omega)
  have M30 := Lib.hid (show (n30 : Int) % 65536 = (n30 : Nat) by have := L30.out; omega)
  have W32 := Lib.hid (show IntKind.u16.wrap (n32 : Int) = (n32 : Nat) by have := L32.out; rw [IntKind.wrap_u16]; omega)
  have M32 := Lib.hid (show (n32 : Int) % 65536 = (n32 : Nat) by have := L32.out; omega)
  have W34 := Lib.hid (show IntKind.u16.wrap (n34 : Int) = (n34 : Nat) by have := L34.out; rw [IntKind.wrap_u16]; omega)
  have M34 := Lib.hid (show (n34 : Int) % 65536 = (n34 : Nat) by have := L34.out; omega)
  have W36 := Lib.hid (show IntKind.u16.wrap (n36 : Int) = (n36 : Nat) by have := L36.out; rw [IntKind.wrap_u16]; omega)
  have M36 := Lib.hid (show (n36 : Int) % 65536 = (n36 : Nat) by have := L36.out; omega)
  clear hn8 hn16 hn20 hn28 hn30 hn32 hn34 hn36
  have EI := Lib.hid (decE_in s h7 hf (by omega) (by rw [hv0, hk0]; rfl) (by rw [hk0]; exact hl))
  have PI := Lib.hid (decP_in s (by omega))
  have lf : f < 256 := by rw [hf7]; exact byteAt_lt s 7
  have LF := Lib.hid lf
  have HL := Lib.hid hl
  have hl3 : ¬ (s.size : Int) < 38 := by omega
  clear hf7 lf
  have h7' : ¬ (s.size : Int) < 7 := by omega
  have h5 : (5 : Int) ≤ (s.size : Int) := by omega
  have hff : ((s.extract 0 5).toList == [66, 66, 3, 0, 0]) = true := by rw [text_eq, decide_eq_true_eq]; exact hf
  have b5 : 5 < s.size := by omega
  have b6 : 6 < s.size := by omega
  have b5i : (5 : Int) < (s.size : Int) := by omega
  have b6i : (6 : Int) < (s.size : Int) := by omega
  obtain ⟨k, hk⟩ : ∃ k, k = kB s := ⟨_, rfl⟩
  obtain ⟨v, hv⟩ : ∃ v, v = vB s := ⟨_, rfl⟩
  rw [← hk] at hk0
  rw [← hv] at hv0
  have K6 := Lib.hid (show s[6].toNat = k from (byteAt_get s 6 b6).trans hk.symm)
  have V5 := Lib.hid (show s[5].toNat = v from (byteAt_get s 5 b5).trans hv.symm)
  have EK := Lib.hid hk.symm
  rw [← hk] at DQ EI
  rw [DQ.out] at EI PI
  clear hk hv h7 hf hl
  have e0 : ((k : Int) != 0) = false := by rw [hk0]; rfl
  have e2 : ((k : Int) != 2) = true := by rw [hk0]; rfl
  have e128 : ((k : Int) != 128) = true := by rw [hk0]; rfl
  have q2 : ((k : Int) == 2) = false := by rw [hk0]; rfl
  have q128 : ((k : Int) == 128) = false := by rw [hk0]; rfl
  have ev : ((v : Int) != 0) = false := by rw [hv0]; rfl
  clear hv0
  have HK0 := Lib.hid hk0
  clear hk0
  have hi := Lib.hid size38
  have ho := Lib.hid nil16_one
  obtain ⟨W, hW⟩ : ∃ W, W = w.alloc (Obj.cells nil16 38) := ⟨_, rfl⟩
  have r0 := Lib.hid (show Blk W w.heap.size nil16 38 by rw [hW]; exact Blk.new _ _ _)
  have hB := Lib.hid (show Below w.heap.size w W by rw [hW]; exact (Below.refl _ _).alloc (Nat.le_refl _) _)
  have HW := Lib.hid hW
  clear hW
  go_enter Try.func18, Try.ntmps18
  go_upto_region 1 with fail
  simp only [nil16] at HW
  rw [← HW.out]
  clear HW
  go_upto_region 5 with fail
  have R0 := Rs.drew (w := W) ⟨r0.out, hB.out⟩
  refine wp_region_quiet (C := Rs w w.heap.size) (by kernel_rfl) (by kernel_rfl) R0 ?_
  (refine q_val (v := ?_) (by rfl) ?_ ?_; rotate_left; (· (intro w hC; go_simp; try with_reducible rfl)); (try simp only [Act.put, List.getElem_toArray, List.getElem_cons_succ, List.getElem_cons_zero, List.setIfInBounds_toArray, List.set_cons_zero, List.set_cons_succ]))
  (refine q_val (v := ?_) (by rfl) ?_ ?_; rotate_left; (· (intro w hC; have b := b6i; have b2 := b6; go_simp; try with_reducible rfl)); (try simp only [Act.put, List.getElem_toArray, List.getElem_cons_succ, List.getElem_cons_zero, List.setIfInBounds_toArray, List.set_cons_zero, List.set_cons_succ]))
  (refine q_val (v := ?_) (by rfl) ?_ ?_; rotate_left; (· (intro w hC; go_simp; try with_reducible rfl)); (try simp only [Act.put, List.getElem_toArray, List.getElem_cons_succ, List.getElem_cons_zero, List.setIfInBounds_toArray, List.set_cons_zero, List.set_cons_succ]))
  (refine q_val (v := ?_) (by rfl) ?_ ?_; rotate_left; (· (intro w hC; have b := b5i; have b2 := b5; go_simp; try with_reducible rfl)); (try simp only [Act.put, List.getElem_toArray, List.getElem_cons_succ, List.getElem_cons_zero, List.setIfInBounds_toArray, List.set_cons_zero, List.set_cons_succ]))
  (refine q_val (v := ?_) (by rfl) ?_ ?_; rotate_left; (· (intro w hC; go_simp; try with_reducible rfl)); (try simp only [Act.put, List.getElem_toArray, List.getElem_cons_succ, List.getElem_cons_zero, List.setIfInBounds_toArray, List.set_cons_zero, List.set_cons_succ]))
  (refine q_val (v := ?_) (by rfl) ?_ ?_; rotate_left; (· (intro w hC; go_simp; try with_reducible rfl)); (try simp only [Act.put, List.getElem_toArray, List.getElem_cons_succ, List.getElem_cons_zero, List.setIfInBounds_toArray, List.set_cons_zero, List.set_cons_succ]))
  refine wpQuiet_nil ?_
  intro w5 hC
  rw [K6.out, V5.out]
  have R := Lib.hid hC
  clear hC R0 r0 hB
  go_upto_region 9 with fail
  obtain ⟨w6, hw6⟩ : ∃ w6, w6 = w5.alloc (Obj.cells #[.int .u8 (k : Nat), .bool false, .bool false, .bool false, .bool false, .bool false, .bool false, .int .u8 0, .int .u64 0, .int .u32 0, .int .u64 0, .int .u16 0, .int .u16 0, .int .u16 0, .int .u16 0, .int .u16 0] 38) := ⟨_, rfl⟩
  have D := Lib.hid (show Dr w w.heap.size w5.heap.size (kindP k) w6 by rw [hw6]; exact ⟨R.out.r0.alloc _, Blk.new _ _ _, R.out.below.alloc (Nat.le_of_lt R.out.r0.lt) _, R.out.r0.lt⟩)
  rw [← hw6]
  clear hw6 R
  generalize w5.heap.size = g at *
  go_upto_region 14 with fail
  rw [F7.out]
  have c1 := D.out.blk.cell 1
  simp only [pdA1] at c1
  have f1 := D.out.blk.free 1
  have c2 := D.out.blk.cell 2
  simp only [pdA2] at c2
  have f2 := D.out.blk.free 2
  have c7 := D.out.blk.cell 7
  simp only [pdA7] at c7
  have f7 := D.out.blk.free 7
  have c3 := D.out.blk.cell 3
  simp only [pdA3] at c3
  have f3 := D.out.blk.free 3
  go_upto_region 15 with fail
  clear c1 f1 c2 f2 c7 f7 c3 f3
  have D1 := D.out.put 1 (.bool ((f : Int) % 2 == 1)) ⟨k, ((f : Int) % 2 == 1), false, false, false, false, false, 0, 0, 0, 0, 0, 0, 0, 0, 0⟩ rfl
  have D2 := D1.put 2 (.bool ((f : Int) / 2 % 2 == 1)) ⟨k, ((f : Int) % 2 == 1), ((f : Int) / 2 % 2 == 1), false, false, false, false, 0, 0, 0, 0, 0, 0, 0, 0, 0⟩ rfl
  have D3 := D2.put 7 (.int .u8 ((f : Int) / 4 % 4)) ⟨k, ((f : Int) % 2 == 1), ((f : Int) / 2 % 2 == 1), false, false, false, false, f / 4 % 4, 0, 0, 0, 0, 0, 0, 0, 0⟩ rfl
  have D4 := D3.put 3 (.bool ((f : Int) / 16 % 2 == 1)) ⟨k, ((f : Int) % 2 == 1), ((f : Int) / 2 % 2 == 1), ((f : Int) / 16 % 2 == 1), false, false, false, f / 4 % 4, 0, 0, 0, 0, 0, 0, 0, 0⟩ rfl
  obtain ⟨w7, hw7⟩ : ∃ w7, w7 = ((((w6.setCell ⟨g, 1, none⟩ (.bool ((f : Int) % 2 == 1))).setCell ⟨g, 2, none⟩ (.bool ((f : Int) / 2 % 2 == 1))).setCell ⟨g, 7, none⟩ (.int .u8 ((f : Int) / 4 % 4))).setCell ⟨g, 3, none⟩ (.bool ((f : Int) / 16 % 2 == 1))) := ⟨_, rfl⟩
  rw [← hw7] at D4
  rw [← hw7]
  have E4 := Lib.hid D4
  clear hw7 D1 D2 D3 D4 D
  have c4 := E4.out.blk.cell 4
  simp only [pdA4] at c4
  have f4 := E4.out.blk.free 4
  have c5 := E4.out.blk.cell 5
  simp only [pdA5] at c5
  have f5 := E4.out.blk.free 5
  have c6 := E4.out.blk.cell 6
  simp only [pdA6] at c6
  have f6 := E4.out.blk.free 6
  go_upto_region 16 with fail
  clear c4 f4 c5 f5 c6 f6
  have D1 := E4.out.put 4 (.bool ((f : Int) / 32 % 2 == 1)) ⟨k, ((f : Int) % 2 == 1), ((f : Int) / 2 % 2 == 1), ((f : Int) / 16 % 2 == 1), ((f : Int) / 32 % 2 == 1), false, false, f / 4 % 4, 0, 0, 0, 0, 0, 0, 0, 0⟩ rfl
  have D2 := D1.put 5 (.bool ((f : Int) / 64 % 2 == 1)) ⟨k, ((f : Int) % 2 == 1), ((f : Int) / 2 % 2 == 1), ((f : Int) / 16 % 2 == 1), ((f : Int) / 32 % 2 == 1), ((f : Int) / 64 % 2 == 1), false, f / 4 % 4, 0, 0, 0, 0, 0, 0, 0, 0⟩ rfl
  have D3 := D2.put 6 (.bool ((f : Int) / 128 % 256 == 1)) ⟨k, ((f : Int) % 2 == 1), ((f : Int) / 2 % 2 == 1), ((f : Int) / 16 % 2 == 1), ((f : Int) / 32 % 2 == 1), ((f : Int) / 64 % 2 == 1), ((f : Int) / 128 % 256 == 1), f / 4 % 4, 0, 0, 0, 0, 0, 0, 0, 0⟩ rfl
  obtain ⟨w8, hw8⟩ : ∃ w8, w8 = (((w7.setCell ⟨g, 4, none⟩ (.bool ((f : Int) / 32 % 2 == 1))).setCell ⟨g, 5, none⟩ (.bool ((f : Int) / 64 % 2 == 1))).setCell ⟨g, 6, none⟩ (.bool ((f : Int) / 128 % 256 == 1))) := ⟨_, rfl⟩
  rw [← hw8] at D3
  rw [← hw8]
  have lf := LF.out
  have g1 : ((f : Int) % 2 == 1) = decide (f % 2 = 1) := by rw [Bool.eq_iff_iff, beq_iff_eq, decide_eq_true_eq]; omega
  have g2 : ((f : Int) / 2 % 2 == 1) = decide (f / 2 % 2 = 1) := by rw [Bool.eq_iff_iff, beq_iff_eq, decide_eq_true_eq]; omega
  have g3 : ((f : Int) / 16 % 2 == 1) = decide (f / 16 % 2 = 1) := by rw [Bool.eq_iff_iff, beq_iff_eq, decide_eq_true_eq]; omega
  have g4 : ((f : Int) / 32 % 2 == 1) = decide (f / 32 % 2 = 1) := by rw [Bool.eq_iff_iff, beq_iff_eq, decide_eq_true_eq]; omega
  have g5 : ((f : Int) / 64 % 2 == 1) = decide (f / 64 % 2 = 1) := by rw [Bool.eq_iff_iff, beq_iff_eq, decide_eq_true_eq]; omega
  have g6 : ((f : Int) / 128 % 256 == 1) = decide (f / 128 = 1) := by rw [Bool.eq_iff_iff, beq_iff_eq, decide_eq_true_eq]; omega
  rw [g1, g2, g3, g4, g5, g6] at D3
  have E0 := Lib.hid (show Dr w w.heap.size g (nmP k f 0 0 0 0 0 0 0 0) w8.drew from Dr.drew D3)
  clear hw8 D1 D2 D3 E4 lf g1 g2 g3 g4 g5 g6
  have h16 : (16 : Int) ≤ (s.size : Int) := by omega
  have h20 : (20 : Int) ≤ (s.size : Int) := by omega
  have h28 : (28 : Int) ≤ (s.size : Int) := by omega
  have l16 : (n16 : Int) < 4294967296 := by have := L16.out; omega
  refine wp_region_held_drew (S := fun _ => True) (by kernel_rfl) trivial (fun hHeld => ?_)
  clear hHeld
  generalize w8.drew = w9 at *
  (refine wpAnyH_take (i := 0) (v := ?_) rfl (by kernel_rfl) (by kernel_rfl) (by kernel_rfl) (fun _ _ _ h => h) (Or.inl ⟨by rfl, ?_⟩) trivial ?_; rotate_left; (· (intro w hSw; go_simp; try with_reducible rfl)); (try simp only [Act.put, List.getElem_toArray, List.getElem_cons_succ, List.getElem_cons_zero, List.setIfInBounds_toArray, List.set_cons_zero, List.set_cons_succ]))
  (refine wpAnyH_take (i := 1) (v := ?_) rfl (by kernel_rfl) (by kernel_rfl) (by kernel_rfl) (fun _ _ _ h => h) (Or.inl ⟨by rfl, ?_⟩) trivial ?_; rotate_left; (· (intro w hSw; have e := h16; go_simp; try with_reducible rfl)); (try simp only [Act.put, List.getElem_toArray, List.getElem_cons_succ, List.getElem_cons_zero, List.setIfInBounds_toArray, List.set_cons_zero, List.set_cons_succ]))
  (refine wpAnyH_take (i := 3) (v := ?_) rfl (by kernel_rfl) (by kernel_rfl) (by kernel_rfl) (fun _ _ _ h => h) (Or.inl ⟨by rfl, ?_⟩) trivial ?_; rotate_left; (· (intro w hSw; go_simp; try with_reducible rfl)); (try simp only [Act.put, List.getElem_toArray, List.getElem_cons_succ, List.getElem_cons_zero, List.setIfInBounds_toArray, List.set_cons_zero, List.set_cons_succ]))
  (refine wpAnyH_take (i := 4) (v := ?_) rfl (by kernel_rfl) (by kernel_rfl) (by kernel_rfl) (fun _ _ _ h => h) (Or.inl ⟨by rfl, ?_⟩) trivial ?_; rotate_left; (· (intro w hSw; have e := h20; go_simp; try with_reducible rfl)); (try simp only [Act.put, List.getElem_toArray, List.getElem_cons_succ, List.getElem_cons_zero, List.setIfInBounds_toArray, List.set_cons_zero, List.set_cons_succ]))
  (refine wpAnyH_take (i := 7) (v := ?_) rfl (by kernel_rfl) (by kernel_rfl) (by kernel_rfl) (fun _ _ _ h => h) (Or.inl ⟨by rfl, ?_⟩) trivial ?_; rotate_left; (· (intro w hSw; go_simp; try with_reducible rfl)); (try simp only [Act.put, List.getElem_toArray, List.getElem_cons_succ, List.getElem_cons_zero, List.setIfInBounds_toArray, List.set_cons_zero, List.set_cons_succ]))
  (refine wpAnyH_take (i := 8) (v := ?_) rfl (by kernel_rfl) (by kernel_rfl) (by kernel_rfl) (fun _ _ _ h => h) (Or.inl ⟨by rfl, ?_⟩) trivial ?_; rotate_left; (· (intro w hSw; have e := h28; go_simp; try with_reducible rfl)); (try simp only [Act.put, List.getElem_toArray, List.getElem_cons_succ, List.getElem_cons_zero, List.setIfInBounds_toArray, List.set_cons_zero, List.set_cons_succ]))
  refine wpAnyH_ready (rs := [2]) (by kernel_rfl) (by simp) ?_
  refine AllReadyH.cons rfl (fun K hK => ?_) AllReadyH.nil
  go_simp
  refine (number_at s 8 8 16 n8 rfl (by omega) N8.out _).mono ?_
  rintro e w9 ⟨rfl, rfl⟩
  dsimp only
  refine hK.out _ _ trivial (fun hHeld => ?_)
  clear hK K hHeld
  (try simp only [Act.put, List.getElem_toArray, List.getElem_cons_succ, List.getElem_cons_zero, List.setIfInBounds_toArray, List.set_cons_zero, List.set_cons_succ])
  (refine wpAnyH_take (i := 10) (v := ?_) rfl (by kernel_rfl) (by kernel_rfl) (by kernel_rfl) (fun _ _ _ h => h) (Or.inl ⟨by rfl, ?_⟩) trivial ?_; rotate_left; (· (intro w hSw; go_simp; try with_reducible rfl)); (try simp only [Act.put, List.getElem_toArray, List.getElem_cons_succ, List.getElem_cons_zero, List.setIfInBounds_toArray, List.set_cons_zero, List.set_cons_succ]))
  refine wpAnyH_ready (rs := [5]) (by kernel_rfl) (by simp) ?_
  refine AllReadyH.cons rfl (fun K hK => ?_) AllReadyH.nil
  go_simp
  refine (number_at s 16 4 20 n16 rfl (by omega) N16.out _).mono ?_
  rintro e w9 ⟨rfl, rfl⟩
  dsimp only
  refine hK.out _ _ trivial (fun hHeld => ?_)
  clear hK K hHeld
  (try simp only [Act.put, List.getElem_toArray, List.getElem_cons_succ, List.getElem_cons_zero, List.setIfInBounds_toArray, List.set_cons_zero, List.set_cons_succ])
  (refine wpAnyH_take (i := 6) (v := ?_) rfl (by kernel_rfl) (by kernel_rfl) (by kernel_rfl) (fun _ _ _ h => h) (Or.inl ⟨by rfl, ?_⟩) trivial ?_; rotate_left; (· (intro w hSw; have e := W16.out; have e2 := M16.out; go_simp; try with_reducible rfl)); (try simp only [Act.put, List.getElem_toArray, List.getElem_cons_succ, List.getElem_cons_zero, List.setIfInBounds_toArray, List.set_cons_zero, List.set_cons_succ]))
  refine wpAnyH_ready (rs := [9]) (by kernel_rfl) (by simp) ?_
  refine AllReadyH.cons rfl (fun K hK => ?_) AllReadyH.nil
  go_simp
  refine (number_at s 20 8 28 n20 rfl (by omega) N20.out _).mono ?_
  rintro e w9 ⟨rfl, rfl⟩
  dsimp only
  refine hK.out _ _ trivial (fun hHeld => ?_)
  clear hK K hHeld
  (try simp only [Act.put, List.getElem_toArray, List.getElem_cons_succ, List.getElem_cons_zero, List.setIfInBounds_toArray, List.set_cons_zero, List.set_cons_succ])
  refine wpAnyH_ready (rs := [11]) (by kernel_rfl) (by simp) ?_
  refine AllReadyH.cons rfl (fun K hK => ?_) AllReadyH.nil
  rw [if_pos (by rfl)]
  refine wp_store_cell _ _ _ rfl ⟨g, 8, none⟩ (.int .u64 (n8 : Nat)) rfl rfl (by have c := E0.out.blk.cell 8; simp only [pdA8] at c; have fr := E0.out.blk.free 8; go_simp) ?_
  refine hK.out _ _ trivial (fun hHeld => ?_)
  clear hK K hHeld
  (try simp only [Act.put, List.getElem_toArray, List.getElem_cons_succ, List.getElem_cons_zero, List.setIfInBounds_toArray, List.set_cons_zero, List.set_cons_succ])
  have E1 := Lib.hid (E0.out.put 8 (.int .u64 (n8 : Nat)) (nmP k f n8 0 0 0 0 0 0 0) rfl)
  generalize World.setCell _ ⟨g, 8, none⟩ (.int .u64 (n8 : Nat)) = w10 at *
  clear E0
  (refine wpAnyH_take (i := 12) (v := ?_) rfl (by kernel_rfl) (by kernel_rfl) (by kernel_rfl) (fun _ _ _ h => h) (Or.inl ⟨by rfl, ?_⟩) trivial ?_; rotate_left; (· (intro w hSw; go_simp; try with_reducible rfl)); (try simp only [Act.put, List.getElem_toArray, List.getElem_cons_succ, List.getElem_cons_zero, List.setIfInBounds_toArray, List.set_cons_zero, List.set_cons_succ]))
  refine wpAnyH_ready (rs := [13]) (by kernel_rfl) (by simp) ?_
  refine AllReadyH.cons rfl (fun K hK => ?_) AllReadyH.nil
  rw [if_pos (by rfl)]
  refine wp_store_cell _ _ _ rfl ⟨g, 9, none⟩ (.int .u32 (n16 : Nat)) rfl rfl (by have c := E1.out.blk.cell 9; simp only [pdA9] at c; have fr := E1.out.blk.free 9; go_simp) ?_
  refine hK.out _ _ trivial (fun hHeld => ?_)
  clear hK K hHeld
  (try simp only [Act.put, List.getElem_toArray, List.getElem_cons_succ, List.getElem_cons_zero, List.setIfInBounds_toArray, List.set_cons_zero, List.set_cons_succ])
  have E2 := Lib.hid (E1.out.put 9 (.int .u32 (n16 : Nat)) (nmP k f n8 n16 0 0 0 0 0 0) rfl)
  generalize World.setCell _ ⟨g, 9, none⟩ (.int .u32 (n16 : Nat)) = w11 at *
  clear E1
  (refine wpAnyH_take (i := 14) (v := ?_) rfl (by kernel_rfl) (by kernel_rfl) (by kernel_rfl) (fun _ _ _ h => h) (Or.inl ⟨by rfl, ?_⟩) trivial ?_; rotate_left; (· (intro w hSw; go_simp; try with_reducible rfl)); (try simp only [Act.put, List.getElem_toArray, List.getElem_cons_succ, List.getElem_cons_zero, List.setIfInBounds_toArray, List.set_cons_zero, List.set_cons_succ]))
  refine wpAnyH_ready (rs := [15]) (by kernel_rfl) (by simp) ?_
  refine AllReadyH.cons rfl (fun K hK => ?_) AllReadyH.nil
  rw [if_pos (by rfl)]
  refine wp_store_cell _ _ _ rfl ⟨g, 10, none⟩ (.int .u64 (n20 : Nat)) rfl rfl (by have c := E2.out.blk.cell 10; simp only [pdA10] at c; have fr := E2.out.blk.free 10; go_simp) ?_
  refine hK.out _ _ trivial (fun hHeld => ?_)
  clear hK K hHeld
  (try simp only [Act.put, List.getElem_toArray, List.getElem_cons_succ, List.getElem_cons_zero, List.setIfInBounds_toArray, List.set_cons_zero, List.set_cons_succ])
  have E3 := Lib.hid (E2.out.put 10 (.int .u64 (n20 : Nat)) (nmP k f n8 n16 n20 0 0 0 0 0) rfl)
  generalize World.setCell _ ⟨g, 10, none⟩ (.int .u64 (n20 : Nat)) = w12 at *
  clear E2
  refine wpAnyH_done (by kernel_rfl) ?_ _
  clear l16 h16 h20 h28
  go_upto_region 17 with fail
  have E0 := Lib.hid (show Dr w w.heap.size g (nmP k f n8 n16 n20 0 0 0 0 0) w12.drew from Dr.drew E3.out)
  clear E3
  have h30 : (30 : Int) ≤ (s.size : Int) := by omega
  have h32 : (32 : Int) ≤ (s.size : Int) := by omega
  have h34 : (34 : Int) ≤ (s.size : Int) := by omega
  have l28 : (n28 : Int) < 65536 := by have := L28.out; omega
  have l30 : (n30 : Int) < 65536 := by have := L30.out; omega
  have l32 : (n32 : Int) < 65536 := by have := L32.out; omega
  refine wp_region_held_drew (S := fun _ => True) (by kernel_rfl) trivial (fun hHeld => ?_)
  clear hHeld
  generalize w12.drew = w13 at *
  (refine wpAnyH_take (i := 0) (v := ?_) rfl (by kernel_rfl) (by kernel_rfl) (by kernel_rfl) (fun _ _ _ h => h) (Or.inl ⟨by rfl, ?_⟩) trivial ?_; rotate_left; (· (intro w hSw; go_simp; try with_reducible rfl)); (try simp only [Act.put, List.getElem_toArray, List.getElem_cons_succ, List.getElem_cons_zero, List.setIfInBounds_toArray, List.set_cons_zero, List.set_cons_succ]))
  (refine wpAnyH_take (i := 1) (v := ?_) rfl (by kernel_rfl) (by kernel_rfl) (by kernel_rfl) (fun _ _ _ h => h) (Or.inl ⟨by rfl, ?_⟩) trivial ?_; rotate_left; (· (intro w hSw; have e := h30; go_simp; try with_reducible rfl)); (try simp only [Act.put, List.getElem_toArray, List.getElem_cons_succ, List.getElem_cons_zero, List.setIfInBounds_toArray, List.set_cons_zero, List.set_cons_succ]))
  (refine wpAnyH_take (i := 4) (v := ?_) rfl (by kernel_rfl) (by kernel_rfl) (by kernel_rfl) (fun _ _ _ h => h) (Or.inl ⟨by rfl, ?_⟩) trivial ?_; rotate_left; (· (intro w hSw; go_simp; try with_reducible rfl)); (try simp only [Act.put, List.getElem_toArray, List.getElem_cons_succ, List.getElem_cons_zero, List.setIfInBounds_toArray, List.set_cons_zero, List.set_cons_succ]))
  (refine wpAnyH_take (i := 5) (v := ?_) rfl (by kernel_rfl) (by kernel_rfl) (by kernel_rfl) (fun _ _ _ h => h) (Or.inl ⟨by rfl, ?_⟩) trivial ?_; rotate_left; (· (intro w hSw; have e := h32; go_simp; try with_reducible rfl)); (try simp only [Act.put, List.getElem_toArray, List.getElem_cons_succ, List.getElem_cons_zero, List.setIfInBounds_toArray, List.set_cons_zero, List.set_cons_succ]))
  (refine wpAnyH_take (i := 8) (v := ?_) rfl (by kernel_rfl) (by kernel_rfl) (by kernel_rfl) (fun _ _ _ h => h) (Or.inl ⟨by rfl, ?_⟩) trivial ?_; rotate_left; (· (intro w hSw; go_simp; try with_reducible rfl)); (try simp only [Act.put, List.getElem_toArray, List.getElem_cons_succ, List.getElem_cons_zero, List.setIfInBounds_toArray, List.set_cons_zero, List.set_cons_succ]))
  (refine wpAnyH_take (i := 9) (v := ?_) rfl (by kernel_rfl) (by kernel_rfl) (by kernel_rfl) (fun _ _ _ h => h) (Or.inl ⟨by rfl, ?_⟩) trivial ?_; rotate_left; (· (intro w hSw; have e := h34; go_simp; try with_reducible rfl)); (try simp only [Act.put, List.getElem_toArray, List.getElem_cons_succ, List.getElem_cons_zero, List.setIfInBounds_toArray, List.set_cons_zero, List.set_cons_succ]))
  refine wpAnyH_ready (rs := [2]) (by kernel_rfl) (by simp) ?_
  refine AllReadyH.cons rfl (fun K hK => ?_) AllReadyH.nil
  go_simp
  refine (number_at s 28 2 30 n28 rfl (by omega) N28.out _).mono ?_
  rintro e w9 ⟨rfl, rfl⟩
  dsimp only
  refine hK.out _ _ trivial (fun hHeld => ?_)
  clear hK K hHeld
  (try simp only [Act.put, List.getElem_toArray, List.getElem_cons_succ, List.getElem_cons_zero, List.setIfInBounds_toArray, List.set_cons_zero, List.set_cons_succ])
  (refine wpAnyH_take (i := 3) (v := ?_) rfl (by kernel_rfl) (by kernel_rfl) (by kernel_rfl) (fun _ _ _ h => h) (Or.inl ⟨by rfl, ?_⟩) trivial ?_; rotate_left; (· (intro w hSw; have e := W28.out; have e2 := M28.out; go_simp; try with_reducible rfl)); (try simp only [Act.put, List.getElem_toArray, List.getElem_cons_succ, List.getElem_cons_zero, List.setIfInBounds_toArray, List.set_cons_zero, List.set_cons_succ]))
  (refine wpAnyH_take (i := 12) (v := ?_) rfl (by kernel_rfl) (by kernel_rfl) (by kernel_rfl) (fun _ _ _ h => h) (Or.inl ⟨by rfl, ?_⟩) trivial ?_; rotate_left; (· (intro w hSw; go_simp; try with_reducible rfl)); (try simp only [Act.put, List.getElem_toArray, List.getElem_cons_succ, List.getElem_cons_zero, List.setIfInBounds_toArray, List.set_cons_zero, List.set_cons_succ]))
  refine wpAnyH_ready (rs := [6]) (by kernel_rfl) (by simp) ?_
  refine AllReadyH.cons rfl (fun K hK => ?_) AllReadyH.nil
  go_simp
  refine (number_at s 30 2 32 n30 rfl (by omega) N30.out _).mono ?_
  rintro e w9 ⟨rfl, rfl⟩
  dsimp only
  refine hK.out _ _ trivial (fun hHeld => ?_)
  clear hK K hHeld
  (try simp only [Act.put, List.getElem_toArray, List.getElem_cons_succ, List.getElem_cons_zero, List.setIfInBounds_toArray, List.set_cons_zero, List.set_cons_succ])
  (refine wpAnyH_take (i := 7) (v := ?_) rfl (by kernel_rfl) (by kernel_rfl) (by kernel_rfl) (fun _ _ _ h => h) (Or.inl ⟨by rfl, ?_⟩) trivial ?_; rotate_left; (· (intro w hSw; have e := W30.out; have e2 := M30.out; go_simp; try with_reducible rfl)); (try simp only [Act.put, List.getElem_toArray, List.getElem_cons_succ, List.getElem_cons_zero, List.setIfInBounds_toArray, List.set_cons_zero, List.set_cons_succ]))
  refine wpAnyH_ready (rs := [10]) (by kernel_rfl) (by simp) ?_
  refine AllReadyH.cons rfl (fun K hK => ?_) AllReadyH.nil
  go_simp
  refine (number_at s 32 2 34 n32 rfl (by omega) N32.out _).mono ?_
  rintro e w9 ⟨rfl, rfl⟩
  dsimp only
  refine hK.out _ _ trivial (fun hHeld => ?_)
  clear hK K hHeld
  (try simp only [Act.put, List.getElem_toArray, List.getElem_cons_succ, List.getElem_cons_zero, List.setIfInBounds_toArray, List.set_cons_zero, List.set_cons_succ])
  (refine wpAnyH_take (i := 11) (v := ?_) rfl (by kernel_rfl) (by kernel_rfl) (by kernel_rfl) (fun _ _ _ h => h) (Or.inl ⟨by rfl, ?_⟩) trivial ?_; rotate_left; (· (intro w hSw; have e := W32.out; have e2 := M32.out; go_simp; try with_reducible rfl)); (try simp only [Act.put, List.getElem_toArray, List.getElem_cons_succ, List.getElem_cons_zero, List.setIfInBounds_toArray, List.set_cons_zero, List.set_cons_succ]))
  refine wpAnyH_ready (rs := [13]) (by kernel_rfl) (by simp) ?_
  refine AllReadyH.cons rfl (fun K hK => ?_) AllReadyH.nil
  rw [if_pos (by rfl)]
  refine wp_store_cell _ _ _ rfl ⟨g, 11, none⟩ (.int .u16 (n28 : Nat)) rfl rfl (by have c := E0.out.blk.cell 11; simp only [pdA11] at c; have fr := E0.out.blk.free 11; go_simp) ?_
  refine hK.out _ _ trivial (fun hHeld => ?_)
  clear hK K hHeld
  (try simp only [Act.put, List.getElem_toArray, List.getElem_cons_succ, List.getElem_cons_zero, List.setIfInBounds_toArray, List.set_cons_zero, List.set_cons_succ])
  have E1 := Lib.hid (E0.out.put 11 (.int .u16 (n28 : Nat)) (nmP k f n8 n16 n20 n28 0 0 0 0) rfl)
  generalize World.setCell _ ⟨g, 11, none⟩ (.int .u16 (n28 : Nat)) = w14 at *
  clear E0
  (refine wpAnyH_take (i := 14) (v := ?_) rfl (by kernel_rfl) (by kernel_rfl) (by kernel_rfl) (fun _ _ _ h => h) (Or.inl ⟨by rfl, ?_⟩) trivial ?_; rotate_left; (· (intro w hSw; go_simp; try with_reducible rfl)); (try simp only [Act.put, List.getElem_toArray, List.getElem_cons_succ, List.getElem_cons_zero, List.setIfInBounds_toArray, List.set_cons_zero, List.set_cons_succ]))
  refine wpAnyH_ready (rs := [15]) (by kernel_rfl) (by simp) ?_
  refine AllReadyH.cons rfl (fun K hK => ?_) AllReadyH.nil
  rw [if_pos (by rfl)]
  refine wp_store_cell _ _ _ rfl ⟨g, 12, none⟩ (.int .u16 (n30 : Nat)) rfl rfl (by have c := E1.out.blk.cell 12; simp only [pdA12] at c; have fr := E1.out.blk.free 12; go_simp) ?_
  refine hK.out _ _ trivial (fun hHeld => ?_)
  clear hK K hHeld
  (try simp only [Act.put, List.getElem_toArray, List.getElem_cons_succ, List.getElem_cons_zero, List.setIfInBounds_toArray, List.set_cons_zero, List.set_cons_succ])
  have E2 := Lib.hid (E1.out.put 12 (.int .u16 (n30 : Nat)) (nmP k f n8 n16 n20 n28 n30 0 0 0) rfl)
  generalize World.setCell _ ⟨g, 12, none⟩ (.int .u16 (n30 : Nat)) = w15 at *
  clear E1
  (refine wpAnyH_take (i := 16) (v := ?_) rfl (by kernel_rfl) (by kernel_rfl) (by kernel_rfl) (fun _ _ _ h => h) (Or.inl ⟨by rfl, ?_⟩) trivial ?_; rotate_left; (· (intro w hSw; go_simp; try with_reducible rfl)); (try simp only [Act.put, List.getElem_toArray, List.getElem_cons_succ, List.getElem_cons_zero, List.setIfInBounds_toArray, List.set_cons_zero, List.set_cons_succ]))
  refine wpAnyH_ready (rs := [17]) (by kernel_rfl) (by simp) ?_
  refine AllReadyH.cons rfl (fun K hK => ?_) AllReadyH.nil
  rw [if_pos (by rfl)]
  refine wp_store_cell _ _ _ rfl ⟨g, 13, none⟩ (.int .u16 (n32 : Nat)) rfl rfl (by have c := E2.out.blk.cell 13; simp only [pdA13] at c; have fr := E2.out.blk.free 13; go_simp) ?_
  refine hK.out _ _ trivial (fun hHeld => ?_)
  clear hK K hHeld
  (try simp only [Act.put, List.getElem_toArray, List.getElem_cons_succ, List.getElem_cons_zero, List.setIfInBounds_toArray, List.set_cons_zero, List.set_cons_succ])
  have E3 := Lib.hid (E2.out.put 13 (.int .u16 (n32 : Nat)) (nmP k f n8 n16 n20 n28 n30 n32 0 0) rfl)
  generalize World.setCell _ ⟨g, 13, none⟩ (.int .u16 (n32 : Nat)) = w16 at *
  clear E2
  refine wpAnyH_done (by kernel_rfl) ?_ _
  clear l28 l30 l32 h30 h32 h34
  go_upto_region 18 with fail
  have E0 := Lib.hid (show Dr w w.heap.size g (nmP k f n8 n16 n20 n28 n30 n32 0 0) w16.drew from Dr.drew E3.out)
  clear E3
  have h36 : (36 : Int) ≤ (s.size : Int) := by omega
  have h38 : (38 : Int) ≤ (s.size : Int) := by omega
  have l34 : (n34 : Int) < 65536 := by have := L34.out; omega
  have l36 : (n36 : Int) < 65536 := by have := L36.out; omega
  refine wp_region_held_drew (S := fun _ => True) (by kernel_rfl) trivial (fun hHeld => ?_)
  clear hHeld
  generalize w16.drew = w17 at *
  (refine wpAnyH_take (i := 0) (v := ?_) rfl (by kernel_rfl) (by kernel_rfl) (by kernel_rfl) (fun _ _ _ h => h) (Or.inl ⟨by rfl, ?_⟩) trivial ?_; rotate_left; (· (intro w hSw; go_simp; try with_reducible rfl)); (try simp only [Act.put, List.getElem_toArray, List.getElem_cons_succ, List.getElem_cons_zero, List.setIfInBounds_toArray, List.set_cons_zero, List.set_cons_succ]))
  (refine wpAnyH_take (i := 1) (v := ?_) rfl (by kernel_rfl) (by kernel_rfl) (by kernel_rfl) (fun _ _ _ h => h) (Or.inl ⟨by rfl, ?_⟩) trivial ?_; rotate_left; (· (intro w hSw; have e := h36; go_simp; try with_reducible rfl)); (try simp only [Act.put, List.getElem_toArray, List.getElem_cons_succ, List.getElem_cons_zero, List.setIfInBounds_toArray, List.set_cons_zero, List.set_cons_succ]))
  (refine wpAnyH_take (i := 4) (v := ?_) rfl (by kernel_rfl) (by kernel_rfl) (by kernel_rfl) (fun _ _ _ h => h) (Or.inl ⟨by rfl, ?_⟩) trivial ?_; rotate_left; (· (intro w hSw; go_simp; try with_reducible rfl)); (try simp only [Act.put, List.getElem_toArray, List.getElem_cons_succ, List.getElem_cons_zero, List.setIfInBounds_toArray, List.set_cons_zero, List.set_cons_succ]))
  (refine wpAnyH_take (i := 5) (v := ?_) rfl (by kernel_rfl) (by kernel_rfl) (by kernel_rfl) (fun _ _ _ h => h) (Or.inl ⟨by rfl, ?_⟩) trivial ?_; rotate_left; (· (intro w hSw; have e := h38; go_simp; try with_reducible rfl)); (try simp only [Act.put, List.getElem_toArray, List.getElem_cons_succ, List.getElem_cons_zero, List.setIfInBounds_toArray, List.set_cons_zero, List.set_cons_succ]))
  refine wpAnyH_ready (rs := [2]) (by kernel_rfl) (by simp) ?_
  refine AllReadyH.cons rfl (fun K hK => ?_) AllReadyH.nil
  go_simp
  refine (number_at s 34 2 36 n34 rfl (by omega) N34.out _).mono ?_
  rintro e w9 ⟨rfl, rfl⟩
  dsimp only
  refine hK.out _ _ trivial (fun hHeld => ?_)
  clear hK K hHeld
  (try simp only [Act.put, List.getElem_toArray, List.getElem_cons_succ, List.getElem_cons_zero, List.setIfInBounds_toArray, List.set_cons_zero, List.set_cons_succ])
  (refine wpAnyH_take (i := 3) (v := ?_) rfl (by kernel_rfl) (by kernel_rfl) (by kernel_rfl) (fun _ _ _ h => h) (Or.inl ⟨by rfl, ?_⟩) trivial ?_; rotate_left; (· (intro w hSw; have e := W34.out; have e2 := M34.out; go_simp; try with_reducible rfl)); (try simp only [Act.put, List.getElem_toArray, List.getElem_cons_succ, List.getElem_cons_zero, List.setIfInBounds_toArray, List.set_cons_zero, List.set_cons_succ]))
  (refine wpAnyH_take (i := 8) (v := ?_) rfl (by kernel_rfl) (by kernel_rfl) (by kernel_rfl) (fun _ _ _ h => h) (Or.inl ⟨by rfl, ?_⟩) trivial ?_; rotate_left; (· (intro w hSw; go_simp; try with_reducible rfl)); (try simp only [Act.put, List.getElem_toArray, List.getElem_cons_succ, List.getElem_cons_zero, List.setIfInBounds_toArray, List.set_cons_zero, List.set_cons_succ]))
  refine wpAnyH_ready (rs := [6]) (by kernel_rfl) (by simp) ?_
  refine AllReadyH.cons rfl (fun K hK => ?_) AllReadyH.nil
  go_simp
  refine (number_at s 36 2 38 n36 rfl (by omega) N36.out _).mono ?_
  rintro e w9 ⟨rfl, rfl⟩
  dsimp only
  refine hK.out _ _ trivial (fun hHeld => ?_)
  clear hK K hHeld
  (try simp only [Act.put, List.getElem_toArray, List.getElem_cons_succ, List.getElem_cons_zero, List.setIfInBounds_toArray, List.set_cons_zero, List.set_cons_succ])
  (refine wpAnyH_take (i := 7) (v := ?_) rfl (by kernel_rfl) (by kernel_rfl) (by kernel_rfl) (fun _ _ _ h => h) (Or.inl ⟨by rfl, ?_⟩) trivial ?_; rotate_left; (· (intro w hSw; have e := W36.out; have e2 := M36.out; go_simp; try with_reducible rfl)); (try simp only [Act.put, List.getElem_toArray, List.getElem_cons_succ, List.getElem_cons_zero, List.setIfInBounds_toArray, List.set_cons_zero, List.set_cons_succ]))
  refine wpAnyH_ready (rs := [9]) (by kernel_rfl) (by simp) ?_
  refine AllReadyH.cons rfl (fun K hK => ?_) AllReadyH.nil
  rw [if_pos (by rfl)]
  refine wp_store_cell _ _ _ rfl ⟨g, 14, none⟩ (.int .u16 (n34 : Nat)) rfl rfl (by have c := E0.out.blk.cell 14; simp only [pdA14] at c; have fr := E0.out.blk.free 14; go_simp) ?_
  refine hK.out _ _ trivial (fun hHeld => ?_)
  clear hK K hHeld
  (try simp only [Act.put, List.getElem_toArray, List.getElem_cons_succ, List.getElem_cons_zero, List.setIfInBounds_toArray, List.set_cons_zero, List.set_cons_succ])
  have E1 := Lib.hid (E0.out.put 14 (.int .u16 (n34 : Nat)) (nmP k f n8 n16 n20 n28 n30 n32 n34 0) rfl)
  generalize World.setCell _ ⟨g, 14, none⟩ (.int .u16 (n34 : Nat)) = w18 at *
  clear E0
  (refine wpAnyH_take (i := 10) (v := ?_) rfl (by kernel_rfl) (by kernel_rfl) (by kernel_rfl) (fun _ _ _ h => h) (Or.inl ⟨by rfl, ?_⟩) trivial ?_; rotate_left; (· (intro w hSw; go_simp; try with_reducible rfl)); (try simp only [Act.put, List.getElem_toArray, List.getElem_cons_succ, List.getElem_cons_zero, List.setIfInBounds_toArray, List.set_cons_zero, List.set_cons_succ]))
  refine wpAnyH_ready (rs := [11]) (by kernel_rfl) (by simp) ?_
  refine AllReadyH.cons rfl (fun K hK => ?_) AllReadyH.nil
  rw [if_pos (by rfl)]
  refine wp_store_cell _ _ _ rfl ⟨g, 15, none⟩ (.int .u16 (n36 : Nat)) rfl rfl (by have c := E1.out.blk.cell 15; simp only [pdA15] at c; have fr := E1.out.blk.free 15; go_simp) ?_
  refine hK.out _ _ trivial (fun hHeld => ?_)
  clear hK K hHeld
  (try simp only [Act.put, List.getElem_toArray, List.getElem_cons_succ, List.getElem_cons_zero, List.setIfInBounds_toArray, List.set_cons_zero, List.set_cons_succ])
  have E2 := Lib.hid (E1.out.put 15 (.int .u16 (n36 : Nat)) (nmP k f n8 n16 n20 n28 n30 n32 n34 n36) rfl)
  generalize World.setCell _ ⟨g, 15, none⟩ (.int .u16 (n36 : Nat)) = w19 at *
  clear E1
  refine wpAnyH_done (by kernel_rfl) ?_ _
  clear l34 l36 h36 h38
  obtain ⟨q, hq⟩ : ∃ q, q = nmP k f n8 n16 n20 n28 n30 n32 n34 n36 := ⟨_, rfl⟩
  rw [← hq] at EI PI E2
  clear hq DQ
  by_cases hG : goodP q = true
  · have EE := Lib.hid (show decE s = 0 by rw [EI.out, if_neg (fun c => c ⟨hG, fun h => by rw [HK0.out] at h; omega⟩)])
    have PP := Lib.hid (show decP s = q by rw [PI.out, if_pos EE.out])
    have GD := Lib.hid (show goodP q = true from hG)
    clear hG
    go_wp2_with (first
      | (refine wpList_load_row rfl 38 _ rfl g rfl 38 _ (0, 0) _ E2.out.blk Try.underlying38 rfl hi.out ?_)
      | (go_at_call 31; refine (rgood_any q _).mono ?_; rintro e w20 ⟨rfl, hb⟩; rw [GD.out]
         have G2 := Lib.hid (E2.out.next hb); clear hb)
      | (refine wpList_load_row rfl 38 _ rfl g rfl 38 _ (0, 0) _ G2.out.blk Try.underlying38 rfl hi.out ?_)
      | (refine wpList_store_row rfl 38 _ _ rfl w.heap.size (pdA q) rfl rfl 38 nil16 G2.out.r0 hi.out rfl (pdA_one q) ?_))
    exact bodyPost_ret (v := .tuple #[.agg (pdA q), .int .i64 0]) (results_row_tmp Try.results18 _ _ w.heap.size 38 (pdA q) _ _ rfl rfl (G2.out.r0.row _) Try.underlying38 rfl hi.out) rfl ⟨ret_dec (by rw [PP.out]) EE.out.symm, below_setRow G2.out.below (Nat.le_refl _) _⟩
  · have EE := Lib.hid (show decE s = 4 by rw [EI.out, if_pos (fun c => hG c.1)])
    have PP := Lib.hid (show decP s = kindP 0 by rw [PI.out, if_neg (by rw [EE.out]; omega)])
    have GD := Lib.hid (show goodP q = false by simpa using hG)
    clear hG
    go_wp2_with (first
      | (refine wpList_load_row rfl 38 _ rfl g rfl 38 _ (0, 0) _ E2.out.blk Try.underlying38 rfl hi.out ?_)
      | (go_at_call 31; refine (rgood_any q _).mono ?_; rintro e w20 ⟨rfl, hb⟩; rw [GD.out]
         have G2 := Lib.hid (E2.out.next hb); clear hb)
      | (refine wpList_load_row rfl 38 _ rfl g rfl 38 _ (0, 0) _ G2.out.blk Try.underlying38 rfl hi.out ?_)
      | (refine wpList_store_row rfl 38 _ _ rfl w.heap.size nil16 rfl rfl 38 nil16 G2.out.r0 hi.out rfl ho.out ?_))
    exact bodyPost_ret (v := .tuple #[.agg nil16, .int .i64 4]) (results_row_tmp Try.results18 _ _ w.heap.size 38 nil16 _ _ rfl rfl (G2.out.r0.row _) Try.underlying38 rfl hi.out) rfl ⟨ret_dec (by rw [PP.out]; rfl) EE.out.symm, below_setRow G2.out.below (Nat.le_refl _) _⟩

set_option maxRecDepth 100000 in
set_option maxHeartbeats 4000000 in
theorem rdecode_in2 (s : ByteArray) (w : World) (h7 : ¬ s.size < 7) (hf : s.extract 0 5 = frontS) (hk0 : kB s = 2) (hv0 : vB s = 2) (hl : 39 ≤ s.size) : Calls Try.prog 18 #[.string s] w fun e w' => e = .returned (.tuple #[.agg (pdA (decP s)), .int .i64 (decE s)]) ∧ Below w.heap.size w w' := by
  obtain ⟨f, hf7⟩ : ∃ f, f = byteAt' s 7 := ⟨_, rfl⟩
  have b7 : 7 < s.size := by omega
  have b7i : (7 : Int) < (s.size : Int) := by omega
  have F7 := Lib.hid (show s[7].toNat = f from (byteAt_get s 7 b7).trans hf7.symm)
  obtain ⟨n8, hn8⟩ : ∃ n, posV s 8 8 = n := ⟨_, rfl⟩
  have N8 := Lib.hid hn8
  obtain ⟨n16, hn16⟩ : ∃ n, posV s 16 4 = n := ⟨_, rfl⟩
  have N16 := Lib.hid hn16
  obtain ⟨n20, hn20⟩ : ∃ n, posV s 20 8 = n := ⟨_, rfl⟩
  have N20 := Lib.hid hn20
  obtain ⟨n28, hn28⟩ : ∃ n, posV s 28 2 = n := ⟨_, rfl⟩
  have N28 := Lib.hid hn28
  obtain ⟨n30, hn30⟩ : ∃ n, posV s 30 2 = n := ⟨_, rfl⟩
  have N30 := Lib.hid hn30
  obtain ⟨n32, hn32⟩ : ∃ n, posV s 32 2 = n := ⟨_, rfl⟩
  have N32 := Lib.hid hn32
  obtain ⟨n34, hn34⟩ : ∃ n, posV s 34 2 = n := ⟨_, rfl⟩
  have N34 := Lib.hid hn34
  obtain ⟨n36, hn36⟩ : ∃ n, posV s 36 2 = n := ⟨_, rfl⟩
  have N36 := Lib.hid hn36
  have DQ := Lib.hid (show decQ s = nmP (kB s) f n8 n16 n20 n28 n30 n32 n34 n36 by
    rw [decQ_at s (by omega)]
    unfold atP nmP
    rw [← hf7, hn8, hn16, hn20, hn28, hn30, hn32, hn34, hn36])
  have L16 := Lib.hid (show n16 < 4294967296 from hn16 ▸ posV_lt s 16 4)
  have L28 := Lib.hid (show n28 < 65536 from hn28 ▸ posV_lt s 28 2)
  have L30 := Lib.hid (show n30 < 65536 from hn30 ▸ posV_lt s 30 2)
  have L32 := Lib.hid (show n32 < 65536 from hn32 ▸ posV_lt s 32 2)
  have L34 := Lib.hid (show n34 < 65536 from hn34 ▸ posV_lt s 34 2)
  have L36 := Lib.hid (show n36 < 65536 from hn36 ▸ posV_lt s 36 2)
  have W16 := Lib.hid (show IntKind.u32.wrap (n16 : Int) = (n16 : Nat) by have := L16.out; rw [IntKind.wrap_u32]; omega)
  have M16 := Lib.hid (show (n16 : Int) % 4294967296 = (n16 : Nat) by have := L16.out; omega)
  have W28 := Lib.hid (show IntKind.u16.wrap (n28 : Int) = (n28 : Nat) by have := L28.out; rw [IntKind.wrap_u16]; omega)
  have M28 := Lib.hid (show (n28 : Int) % 65536 = (n28 : Nat) by have := L28.out; omega)
  have W30 := Lib.hid (show IntKind.u16.wrap (n30 : Int) = (n30 : Nat) by have := L30.out; rw [IntKind.wrap_u16]; omega)
  have M30 := Lib.hid (show (n30 : Int) % 65536 = (n30 : Nat) by have := L30.out; omega)
  have W32 := Lib.hid (show IntKind.u16.wrap (n32 : Int) = (n32 : Nat) by have := L32.out; rw [IntKind.wrap_u16]; omega)
  have M32 := Lib.hid (show (n32 : Int) % 65536 = (n32 : Nat) by have := L32.out; omega)
  have W34 := Lib.hid (show IntKind.u16.wrap (n34 : Int) = (n34 : Nat) by have := L34.out; rw [IntKind.wrap_u16]; omega)
  have M34 := Lib.hid (show (n34 : Int) % 65536 = (n34 : Nat) by have := L34.out; omega)
  have W36 := Lib.hid (show IntKind.u16.wrap (n36 : Int) = (n36 : Nat) by have := L36.out; rw [IntKind.wrap_u16]; omega)
  have M36 := Lib.hid (show (n36 : Int) % 65536 = (n36 : Nat) by have := L36.out; omega)
  clear hn8 hn16 hn20 hn28 hn30 hn32 hn34 hn36
  have EI := Lib.hid (decE_in s h7 hf (by omega) (by rw [hv0, hk0]; rfl) (by rw [hk0]; exact hl))
  have PI := Lib.hid (decP_in s (by omega))
  obtain ⟨z, hz⟩ : ∃ z, z = byteAt' s 38 := ⟨_, rfl⟩
  have b38 : 38 < s.size := by omega
  have b38i : (38 : Int) < (s.size : Int) := by omega
  have Z38 := Lib.hid (show s[38].toNat = z from (byteAt_get s 38 b38).trans hz.symm)
  rw [← hz] at EI
  clear hz
  have lf : f < 256 := by rw [hf7]; exact byteAt_lt s 7
  have LF := Lib.hid lf
  have HL := Lib.hid hl
  have hl3 : ¬ (s.size : Int) < 38 := by omega
  have hl4 : ¬ (s.size : Int) < 39 := by omega
  clear hf7 lf
  have h7' : ¬ (s.size : Int) < 7 := by omega
  have h5 : (5 : Int) ≤ (s.size : Int) := by omega
  have hff : ((s.extract 0 5).toList == [66, 66, 3, 0, 0]) = true := by rw [text_eq, decide_eq_true_eq]; exact hf
  have b5 : 5 < s.size := by omega
  have b6 : 6 < s.size := by omega
  have b5i : (5 : Int) < (s.size : Int) := by omega
  have b6i : (6 : Int) < (s.size : Int) := by omega
  obtain ⟨k, hk⟩ : ∃ k, k = kB s := ⟨_, rfl⟩
  obtain ⟨v, hv⟩ : ∃ v, v = vB s := ⟨_, rfl⟩
  rw [← hk] at hk0
  rw [← hv] at hv0
  have K6 := Lib.hid (show s[6].toNat = k from (byteAt_get s 6 b6).trans hk.symm)
  have V5 := Lib.hid (show s[5].toNat = v from (byteAt_get s 5 b5).trans hv.symm)
  have EK := Lib.hid hk.symm
  rw [← hk] at DQ EI
  rw [DQ.out] at EI PI
  clear hk hv h7 hf hl
  have e0 : ((k : Int) != 0) = true := by rw [hk0]; rfl
  have e2 : ((k : Int) != 2) = false := by rw [hk0]; rfl
  have e128 : ((k : Int) != 128) = true := by rw [hk0]; rfl
  have q2 : ((k : Int) == 2) = true := by rw [hk0]; rfl
  have q128 : ((k : Int) == 128) = false := by rw [hk0]; rfl
  have ev : ((v : Int) != 2) = false := by rw [hv0]; rfl
  clear hv0
  have HK0 := Lib.hid hk0
  clear hk0
  have hi := Lib.hid size38
  have ho := Lib.hid nil16_one
  obtain ⟨W, hW⟩ : ∃ W, W = w.alloc (Obj.cells nil16 38) := ⟨_, rfl⟩
  have r0 := Lib.hid (show Blk W w.heap.size nil16 38 by rw [hW]; exact Blk.new _ _ _)
  have hB := Lib.hid (show Below w.heap.size w W by rw [hW]; exact (Below.refl _ _).alloc (Nat.le_refl _) _)
  have HW := Lib.hid hW
  clear hW
  go_enter Try.func18, Try.ntmps18
  go_upto_region 1 with fail
  simp only [nil16] at HW
  rw [← HW.out]
  clear HW
  go_upto_region 5 with fail
  have R0 := Rs.drew (w := W) ⟨r0.out, hB.out⟩
  refine wp_region_quiet (C := Rs w w.heap.size) (by kernel_rfl) (by kernel_rfl) R0 ?_
  (refine q_val (v := ?_) (by rfl) ?_ ?_; rotate_left; (· (intro w hC; go_simp; try with_reducible rfl)); (try simp only [Act.put, List.getElem_toArray, List.getElem_cons_succ, List.getElem_cons_zero, List.setIfInBounds_toArray, List.set_cons_zero, List.set_cons_succ]))
  (refine q_val (v := ?_) (by rfl) ?_ ?_; rotate_left; (· (intro w hC; have b := b6i; have b2 := b6; go_simp; try with_reducible rfl)); (try simp only [Act.put, List.getElem_toArray, List.getElem_cons_succ, List.getElem_cons_zero, List.setIfInBounds_toArray, List.set_cons_zero, List.set_cons_succ]))
  (refine q_val (v := ?_) (by rfl) ?_ ?_; rotate_left; (· (intro w hC; go_simp; try with_reducible rfl)); (try simp only [Act.put, List.getElem_toArray, List.getElem_cons_succ, List.getElem_cons_zero, List.setIfInBounds_toArray, List.set_cons_zero, List.set_cons_succ]))
  (refine q_val (v := ?_) (by rfl) ?_ ?_; rotate_left; (· (intro w hC; have b := b5i; have b2 := b5; go_simp; try with_reducible rfl)); (try simp only [Act.put, List.getElem_toArray, List.getElem_cons_succ, List.getElem_cons_zero, List.setIfInBounds_toArray, List.set_cons_zero, List.set_cons_succ]))
  (refine q_val (v := ?_) (by rfl) ?_ ?_; rotate_left; (· (intro w hC; go_simp; try with_reducible rfl)); (try simp only [Act.put, List.getElem_toArray, List.getElem_cons_succ, List.getElem_cons_zero, List.setIfInBounds_toArray, List.set_cons_zero, List.set_cons_succ]))
  (refine q_val (v := ?_) (by rfl) ?_ ?_; rotate_left; (· (intro w hC; go_simp; try with_reducible rfl)); (try simp only [Act.put, List.getElem_toArray, List.getElem_cons_succ, List.getElem_cons_zero, List.setIfInBounds_toArray, List.set_cons_zero, List.set_cons_succ]))
  refine wpQuiet_nil ?_
  intro w5 hC
  rw [K6.out, V5.out]
  have R := Lib.hid hC
  clear hC R0 r0 hB
  go_upto_region 9 with fail
  obtain ⟨w6, hw6⟩ : ∃ w6, w6 = w5.alloc (Obj.cells #[.int .u8 (k : Nat), .bool false, .bool false, .bool false, .bool false, .bool false, .bool false, .int .u8 0, .int .u64 0, .int .u32 0, .int .u64 0, .int .u16 0, .int .u16 0, .int .u16 0, .int .u16 0, .int .u16 0] 38) := ⟨_, rfl⟩
  have D := Lib.hid (show Dr w w.heap.size w5.heap.size (kindP k) w6 by rw [hw6]; exact ⟨R.out.r0.alloc _, Blk.new _ _ _, R.out.below.alloc (Nat.le_of_lt R.out.r0.lt) _, R.out.r0.lt⟩)
  rw [← hw6]
  clear hw6 R
  generalize w5.heap.size = g at *
  go_upto_region 14 with fail
  rw [F7.out]
  have c1 := D.out.blk.cell 1
  simp only [pdA1] at c1
  have f1 := D.out.blk.free 1
  have c2 := D.out.blk.cell 2
  simp only [pdA2] at c2
  have f2 := D.out.blk.free 2
  have c7 := D.out.blk.cell 7
  simp only [pdA7] at c7
  have f7 := D.out.blk.free 7
  have c3 := D.out.blk.cell 3
  simp only [pdA3] at c3
  have f3 := D.out.blk.free 3
  go_upto_region 15 with fail
  clear c1 f1 c2 f2 c7 f7 c3 f3
  have D1 := D.out.put 1 (.bool ((f : Int) % 2 == 1)) ⟨k, ((f : Int) % 2 == 1), false, false, false, false, false, 0, 0, 0, 0, 0, 0, 0, 0, 0⟩ rfl
  have D2 := D1.put 2 (.bool ((f : Int) / 2 % 2 == 1)) ⟨k, ((f : Int) % 2 == 1), ((f : Int) / 2 % 2 == 1), false, false, false, false, 0, 0, 0, 0, 0, 0, 0, 0, 0⟩ rfl
  have D3 := D2.put 7 (.int .u8 ((f : Int) / 4 % 4)) ⟨k, ((f : Int) % 2 == 1), ((f : Int) / 2 % 2 == 1), false, false, false, false, f / 4 % 4, 0, 0, 0, 0, 0, 0, 0, 0⟩ rfl
  have D4 := D3.put 3 (.bool ((f : Int) / 16 % 2 == 1)) ⟨k, ((f : Int) % 2 == 1), ((f : Int) / 2 % 2 == 1), ((f : Int) / 16 % 2 == 1), false, false, false, f / 4 % 4, 0, 0, 0, 0, 0, 0, 0, 0⟩ rfl
  obtain ⟨w7, hw7⟩ : ∃ w7, w7 = ((((w6.setCell ⟨g, 1, none⟩ (.bool ((f : Int) % 2 == 1))).setCell ⟨g, 2, none⟩ (.bool ((f : Int) / 2 % 2 == 1))).setCell ⟨g, 7, none⟩ (.int .u8 ((f : Int) / 4 % 4))).setCell ⟨g, 3, none⟩ (.bool ((f : Int) / 16 % 2 == 1))) := ⟨_, rfl⟩
  rw [← hw7] at D4
  rw [← hw7]
  have E4 := Lib.hid D4
  clear hw7 D1 D2 D3 D4 D
  have c4 := E4.out.blk.cell 4
  simp only [pdA4] at c4
  have f4 := E4.out.blk.free 4
  have c5 := E4.out.blk.cell 5
  simp only [pdA5] at c5
  have f5 := E4.out.blk.free 5
  have c6 := E4.out.blk.cell 6
  simp only [pdA6] at c6
  have f6 := E4.out.blk.free 6
  go_upto_region 16 with fail
  clear c4 f4 c5 f5 c6 f6
  have D1 := E4.out.put 4 (.bool ((f : Int) / 32 % 2 == 1)) ⟨k, ((f : Int) % 2 == 1), ((f : Int) / 2 % 2 == 1), ((f : Int) / 16 % 2 == 1), ((f : Int) / 32 % 2 == 1), false, false, f / 4 % 4, 0, 0, 0, 0, 0, 0, 0, 0⟩ rfl
  have D2 := D1.put 5 (.bool ((f : Int) / 64 % 2 == 1)) ⟨k, ((f : Int) % 2 == 1), ((f : Int) / 2 % 2 == 1), ((f : Int) / 16 % 2 == 1), ((f : Int) / 32 % 2 == 1), ((f : Int) / 64 % 2 == 1), false, f / 4 % 4, 0, 0, 0, 0, 0, 0, 0, 0⟩ rfl
  have D3 := D2.put 6 (.bool ((f : Int) / 128 % 256 == 1)) ⟨k, ((f : Int) % 2 == 1), ((f : Int) / 2 % 2 == 1), ((f : Int) / 16 % 2 == 1), ((f : Int) / 32 % 2 == 1), ((f : Int) / 64 % 2 == 1), ((f : Int) / 128 % 256 == 1), f / 4 % 4, 0, 0, 0, 0, 0, 0, 0, 0⟩ rfl
  obtain ⟨w8, hw8⟩ : ∃ w8, w8 = (((w7.setCell ⟨g, 4, none⟩ (.bool ((f : Int) / 32 % 2 == 1))).setCell ⟨g, 5, none⟩ (.bool ((f : Int) / 64 % 2 == 1))).setCell ⟨g, 6, none⟩ (.bool ((f : Int) / 128 % 256 == 1))) := ⟨_, rfl⟩
  rw [← hw8] at D3
  rw [← hw8]
  have lf := LF.out
  have g1 : ((f : Int) % 2 == 1) = decide (f % 2 = 1) := by rw [Bool.eq_iff_iff, beq_iff_eq, decide_eq_true_eq]; omega
  have g2 : ((f : Int) / 2 % 2 == 1) = decide (f / 2 % 2 = 1) := by rw [Bool.eq_iff_iff, beq_iff_eq, decide_eq_true_eq]; omega
  have g3 : ((f : Int) / 16 % 2 == 1) = decide (f / 16 % 2 = 1) := by rw [Bool.eq_iff_iff, beq_iff_eq, decide_eq_true_eq]; omega
  have g4 : ((f : Int) / 32 % 2 == 1) = decide (f / 32 % 2 = 1) := by rw [Bool.eq_iff_iff, beq_iff_eq, decide_eq_true_eq]; omega
  have g5 : ((f : Int) / 64 % 2 == 1) = decide (f / 64 % 2 = 1) := by rw [Bool.eq_iff_iff, beq_iff_eq, decide_eq_true_eq]; omega
  have g6 : ((f : Int) / 128 % 256 == 1) = decide (f / 128 = 1) := by rw [Bool.eq_iff_iff, beq_iff_eq, decide_eq_true_eq]; omega
  rw [g1, g2, g3, g4, g5, g6] at D3
  have E0 := Lib.hid (show Dr w w.heap.size g (nmP k f 0 0 0 0 0 0 0 0) w8.drew from Dr.drew D3)
  clear hw8 D1 D2 D3 E4 lf g1 g2 g3 g4 g5 g6
  have h16 : (16 : Int) ≤ (s.size : Int) := by omega
  have h20 : (20 : Int) ≤ (s.size : Int) := by omega
  have h28 : (28 : Int) ≤ (s.size : Int) := by omega
  have l16 : (n16 : Int) < 4294967296 := by have := L16.out; omega
  refine wp_region_held_drew (S := fun _ => True) (by kernel_rfl) trivial (fun hHeld => ?_)
  clear hHeld
  generalize w8.drew = w9 at *
  (refine wpAnyH_take (i := 0) (v := ?_) rfl (by kernel_rfl) (by kernel_rfl) (by kernel_rfl) (fun _ _ _ h => h) (Or.inl ⟨by rfl, ?_⟩) trivial ?_; rotate_left; (· (intro w hSw; go_simp; try with_reducible rfl)); (try simp only [Act.put, List.getElem_toArray, List.getElem_cons_succ, List.getElem_cons_zero, List.setIfInBounds_toArray, List.set_cons_zero, List.set_cons_succ]))
  (refine wpAnyH_take (i := 1) (v := ?_) rfl (by kernel_rfl) (by kernel_rfl) (by kernel_rfl) (fun _ _ _ h => h) (Or.inl ⟨by rfl, ?_⟩) trivial ?_; rotate_left; (· (intro w hSw; have e := h16; go_simp; try with_reducible rfl)); (try simp only [Act.put, List.getElem_toArray, List.getElem_cons_succ, List.getElem_cons_zero, List.setIfInBounds_toArray, List.set_cons_zero, List.set_cons_succ]))
  (refine wpAnyH_take (i := 3) (v := ?_) rfl (by kernel_rfl) (by kernel_rfl) (by kernel_rfl) (fun _ _ _ h => h) (Or.inl ⟨by rfl, ?_⟩) trivial ?_; rotate_left; (· (intro w hSw; go_simp; try with_reducible rfl)); (try simp only [Act.put, List.getElem_toArray, List.getElem_cons_succ, List.getElem_cons_zero, List.setIfInBounds_toArray, List.set_cons_zero, List.set_cons_succ]))
  (refine wpAnyH_take (i := 4) (v := ?_) rfl (by kernel_rfl) (by kernel_rfl) (by kernel_rfl) (fun _ _ _ h => h) (Or.inl ⟨by rfl, ?_⟩) trivial ?_; rotate_left; (· (intro w hSw; have e := h20; go_simp; try with_reducible rfl)); (try simp only [Act.put, List.getElem_toArray, List.getElem_cons_succ, List.getElem_cons_zero, List.setIfInBounds_toArray, List.set_cons_zero, List.set_cons_succ]))
  (refine wpAnyH_take (i := 7) (v := ?_) rfl (by kernel_rfl) (by kernel_rfl) (by kernel_rfl) (fun _ _ _ h => h) (Or.inl ⟨by rfl, ?_⟩) trivial ?_; rotate_left; (· (intro w hSw; go_simp; try with_reducible rfl)); (try simp only [Act.put, List.getElem_toArray, List.getElem_cons_succ, List.getElem_cons_zero, List.setIfInBounds_toArray, List.set_cons_zero, List.set_cons_succ]))
  (refine wpAnyH_take (i := 8) (v := ?_) rfl (by kernel_rfl) (by kernel_rfl) (by kernel_rfl) (fun _ _ _ h => h) (Or.inl ⟨by rfl, ?_⟩) trivial ?_; rotate_left; (· (intro w hSw; have e := h28; go_simp; try with_reducible rfl)); (try simp only [Act.put, List.getElem_toArray, List.getElem_cons_succ, List.getElem_cons_zero, List.setIfInBounds_toArray, List.set_cons_zero, List.set_cons_succ]))
  refine wpAnyH_ready (rs := [2]) (by kernel_rfl) (by simp) ?_
  refine AllReadyH.cons rfl (fun K hK => ?_) AllReadyH.nil
  go_simp
  refine (number_at s 8 8 16 n8 rfl (by omega) N8.out _).mono ?_
  rintro e w9 ⟨rfl, rfl⟩
  dsimp only
  refine hK.out _ _ trivial (fun hHeld => ?_)
  clear hK K hHeld
  (try simp only [Act.put, List.getElem_toArray, List.getElem_cons_succ, List.getElem_cons_zero, List.setIfInBounds_toArray, List.set_cons_zero, List.set_cons_succ])
  (refine wpAnyH_take (i := 10) (v := ?_) rfl (by kernel_rfl) (by kernel_rfl) (by kernel_rfl) (fun _ _ _ h => h) (Or.inl ⟨by rfl, ?_⟩) trivial ?_; rotate_left; (· (intro w hSw; go_simp; try with_reducible rfl)); (try simp only [Act.put, List.getElem_toArray, List.getElem_cons_succ, List.getElem_cons_zero, List.setIfInBounds_toArray, List.set_cons_zero, List.set_cons_succ]))
  refine wpAnyH_ready (rs := [5]) (by kernel_rfl) (by simp) ?_
  refine AllReadyH.cons rfl (fun K hK => ?_) AllReadyH.nil
  go_simp
  refine (number_at s 16 4 20 n16 rfl (by omega) N16.out _).mono ?_
  rintro e w9 ⟨rfl, rfl⟩
  dsimp only
  refine hK.out _ _ trivial (fun hHeld => ?_)
  clear hK K hHeld
  (try simp only [Act.put, List.getElem_toArray, List.getElem_cons_succ, List.getElem_cons_zero, List.setIfInBounds_toArray, List.set_cons_zero, List.set_cons_succ])
  (refine wpAnyH_take (i := 6) (v := ?_) rfl (by kernel_rfl) (by kernel_rfl) (by kernel_rfl) (fun _ _ _ h => h) (Or.inl ⟨by rfl, ?_⟩) trivial ?_; rotate_left; (· (intro w hSw; have e := W16.out; have e2 := M16.out; go_simp; try with_reducible rfl)); (try simp only [Act.put, List.getElem_toArray, List.getElem_cons_succ, List.getElem_cons_zero, List.setIfInBounds_toArray, List.set_cons_zero, List.set_cons_succ]))
  refine wpAnyH_ready (rs := [9]) (by kernel_rfl) (by simp) ?_
  refine AllReadyH.cons rfl (fun K hK => ?_) AllReadyH.nil
  go_simp
  refine (number_at s 20 8 28 n20 rfl (by omega) N20.out _).mono ?_
  rintro e w9 ⟨rfl, rfl⟩
  dsimp only
  refine hK.out _ _ trivial (fun hHeld => ?_)
  clear hK K hHeld
  (try simp only [Act.put, List.getElem_toArray, List.getElem_cons_succ, List.getElem_cons_zero, List.setIfInBounds_toArray, List.set_cons_zero, List.set_cons_succ])
  refine wpAnyH_ready (rs := [11]) (by kernel_rfl) (by simp) ?_
  refine AllReadyH.cons rfl (fun K hK => ?_) AllReadyH.nil
  rw [if_pos (by rfl)]
  refine wp_store_cell _ _ _ rfl ⟨g, 8, none⟩ (.int .u64 (n8 : Nat)) rfl rfl (by have c := E0.out.blk.cell 8; simp only [pdA8] at c; have fr := E0.out.blk.free 8; go_simp) ?_
  refine hK.out _ _ trivial (fun hHeld => ?_)
  clear hK K hHeld
  (try simp only [Act.put, List.getElem_toArray, List.getElem_cons_succ, List.getElem_cons_zero, List.setIfInBounds_toArray, List.set_cons_zero, List.set_cons_succ])
  have E1 := Lib.hid (E0.out.put 8 (.int .u64 (n8 : Nat)) (nmP k f n8 0 0 0 0 0 0 0) rfl)
  generalize World.setCell _ ⟨g, 8, none⟩ (.int .u64 (n8 : Nat)) = w10 at *
  clear E0
  (refine wpAnyH_take (i := 12) (v := ?_) rfl (by kernel_rfl) (by kernel_rfl) (by kernel_rfl) (fun _ _ _ h => h) (Or.inl ⟨by rfl, ?_⟩) trivial ?_; rotate_left; (· (intro w hSw; go_simp; try with_reducible rfl)); (try simp only [Act.put, List.getElem_toArray, List.getElem_cons_succ, List.getElem_cons_zero, List.setIfInBounds_toArray, List.set_cons_zero, List.set_cons_succ]))
  refine wpAnyH_ready (rs := [13]) (by kernel_rfl) (by simp) ?_
  refine AllReadyH.cons rfl (fun K hK => ?_) AllReadyH.nil
  rw [if_pos (by rfl)]
  refine wp_store_cell _ _ _ rfl ⟨g, 9, none⟩ (.int .u32 (n16 : Nat)) rfl rfl (by have c := E1.out.blk.cell 9; simp only [pdA9] at c; have fr := E1.out.blk.free 9; go_simp) ?_
  refine hK.out _ _ trivial (fun hHeld => ?_)
  clear hK K hHeld
  (try simp only [Act.put, List.getElem_toArray, List.getElem_cons_succ, List.getElem_cons_zero, List.setIfInBounds_toArray, List.set_cons_zero, List.set_cons_succ])
  have E2 := Lib.hid (E1.out.put 9 (.int .u32 (n16 : Nat)) (nmP k f n8 n16 0 0 0 0 0 0) rfl)
  generalize World.setCell _ ⟨g, 9, none⟩ (.int .u32 (n16 : Nat)) = w11 at *
  clear E1
  (refine wpAnyH_take (i := 14) (v := ?_) rfl (by kernel_rfl) (by kernel_rfl) (by kernel_rfl) (fun _ _ _ h => h) (Or.inl ⟨by rfl, ?_⟩) trivial ?_; rotate_left; (· (intro w hSw; go_simp; try with_reducible rfl)); (try simp only [Act.put, List.getElem_toArray, List.getElem_cons_succ, List.getElem_cons_zero, List.setIfInBounds_toArray, List.set_cons_zero, List.set_cons_succ]))
  refine wpAnyH_ready (rs := [15]) (by kernel_rfl) (by simp) ?_
  refine AllReadyH.cons rfl (fun K hK => ?_) AllReadyH.nil
  rw [if_pos (by rfl)]
  refine wp_store_cell _ _ _ rfl ⟨g, 10, none⟩ (.int .u64 (n20 : Nat)) rfl rfl (by have c := E2.out.blk.cell 10; simp only [pdA10] at c; have fr := E2.out.blk.free 10; go_simp) ?_
  refine hK.out _ _ trivial (fun hHeld => ?_)
  clear hK K hHeld
  (try simp only [Act.put, List.getElem_toArray, List.getElem_cons_succ, List.getElem_cons_zero, List.setIfInBounds_toArray, List.set_cons_zero, List.set_cons_succ])
  have E3 := Lib.hid (E2.out.put 10 (.int .u64 (n20 : Nat)) (nmP k f n8 n16 n20 0 0 0 0 0) rfl)
  generalize World.setCell _ ⟨g, 10, none⟩ (.int .u64 (n20 : Nat)) = w12 at *
  clear E2
  refine wpAnyH_done (by kernel_rfl) ?_ _
  clear l16 h16 h20 h28
  go_upto_region 17 with fail
  have E0 := Lib.hid (show Dr w w.heap.size g (nmP k f n8 n16 n20 0 0 0 0 0) w12.drew from Dr.drew E3.out)
  clear E3
  have h30 : (30 : Int) ≤ (s.size : Int) := by omega
  have h32 : (32 : Int) ≤ (s.size : Int) := by omega
  have h34 : (34 : Int) ≤ (s.size : Int) := by omega
  have l28 : (n28 : Int) < 65536 := by have := L28.out; omega
  have l30 : (n30 : Int) < 65536 := by have := L30.out; omega
  have l32 : (n32 : Int) < 65536 := by have := L32.out; omega
  refine wp_region_held_drew (S := fun _ => True) (by kernel_rfl) trivial (fun hHeld => ?_)
  clear hHeld
  generalize w12.drew = w13 at *
  (refine wpAnyH_take (i := 0) (v := ?_) rfl (by kernel_rfl) (by kernel_rfl) (by kernel_rfl) (fun _ _ _ h => h) (Or.inl ⟨by rfl, ?_⟩) trivial ?_; rotate_left; (· (intro w hSw; go_simp; try with_reducible rfl)); (try simp only [Act.put, List.getElem_toArray, List.getElem_cons_succ, List.getElem_cons_zero, List.setIfInBounds_toArray, List.set_cons_zero, List.set_cons_succ]))
  (refine wpAnyH_take (i := 1) (v := ?_) rfl (by kernel_rfl) (by kernel_rfl) (by kernel_rfl) (fun _ _ _ h => h) (Or.inl ⟨by rfl, ?_⟩) trivial ?_; rotate_left; (· (intro w hSw; have e := h30; go_simp; try with_reducible rfl)); (try simp only [Act.put, List.getElem_toArray, List.getElem_cons_succ, List.getElem_cons_zero, List.setIfInBounds_toArray, List.set_cons_zero, List.set_cons_succ]))
  (refine wpAnyH_take (i := 4) (v := ?_) rfl (by kernel_rfl) (by kernel_rfl) (by kernel_rfl) (fun _ _ _ h => h) (Or.inl ⟨by rfl, ?_⟩) trivial ?_; rotate_left; (· (intro w hSw; go_simp; try with_reducible rfl)); (try simp only [Act.put, List.getElem_toArray, List.getElem_cons_succ, List.getElem_cons_zero, List.setIfInBounds_toArray, List.set_cons_zero, List.set_cons_succ]))
  (refine wpAnyH_take (i := 5) (v := ?_) rfl (by kernel_rfl) (by kernel_rfl) (by kernel_rfl) (fun _ _ _ h => h) (Or.inl ⟨by rfl, ?_⟩) trivial ?_; rotate_left; (· (intro w hSw; have e := h32; go_simp; try with_reducible rfl)); (try simp only [Act.put, List.getElem_toArray, List.getElem_cons_succ, List.getElem_cons_zero, List.setIfInBounds_toArray, List.set_cons_zero, List.set_cons_succ]))
  (refine wpAnyH_take (i := 8) (v := ?_) rfl (by kernel_rfl) (by kernel_rfl) (by kernel_rfl) (fun _ _ _ h => h) (Or.inl ⟨by rfl, ?_⟩) trivial ?_; rotate_left; (· (intro w hSw; go_simp; try with_reducible rfl)); (try simp only [Act.put, List.getElem_toArray, List.getElem_cons_succ, List.getElem_cons_zero, List.setIfInBounds_toArray, List.set_cons_zero, List.set_cons_succ]))
  (refine wpAnyH_take (i := 9) (v := ?_) rfl (by kernel_rfl) (by kernel_rfl) (by kernel_rfl) (fun _ _ _ h => h) (Or.inl ⟨by rfl, ?_⟩) trivial ?_; rotate_left; (· (intro w hSw; have e := h34; go_simp; try with_reducible rfl)); (try simp only [Act.put, List.getElem_toArray, List.getElem_cons_succ, List.getElem_cons_zero, List.setIfInBounds_toArray, List.set_cons_zero, List.set_cons_succ]))
  refine wpAnyH_ready (rs := [2]) (by kernel_rfl) (by simp) ?_
  refine AllReadyH.cons rfl (fun K hK => ?_) AllReadyH.nil
  go_simp
  refine (number_at s 28 2 30 n28 rfl (by omega) N28.out _).mono ?_
  rintro e w9 ⟨rfl, rfl⟩
  dsimp only
  refine hK.out _ _ trivial (fun hHeld => ?_)
  clear hK K hHeld
  (try simp only [Act.put, List.getElem_toArray, List.getElem_cons_succ, List.getElem_cons_zero, List.setIfInBounds_toArray, List.set_cons_zero, List.set_cons_succ])
  (refine wpAnyH_take (i := 3) (v := ?_) rfl (by kernel_rfl) (by kernel_rfl) (by kernel_rfl) (fun _ _ _ h => h) (Or.inl ⟨by rfl, ?_⟩) trivial ?_; rotate_left; (· (intro w hSw; have e := W28.out; have e2 := M28.out; go_simp; try with_reducible rfl)); (try simp only [Act.put, List.getElem_toArray, List.getElem_cons_succ, List.getElem_cons_zero, List.setIfInBounds_toArray, List.set_cons_zero, List.set_cons_succ]))
  (refine wpAnyH_take (i := 12) (v := ?_) rfl (by kernel_rfl) (by kernel_rfl) (by kernel_rfl) (fun _ _ _ h => h) (Or.inl ⟨by rfl, ?_⟩) trivial ?_; rotate_left; (· (intro w hSw; go_simp; try with_reducible rfl)); (try simp only [Act.put, List.getElem_toArray, List.getElem_cons_succ, List.getElem_cons_zero, List.setIfInBounds_toArray, List.set_cons_zero, List.set_cons_succ]))
  refine wpAnyH_ready (rs := [6]) (by kernel_rfl) (by simp) ?_
  refine AllReadyH.cons rfl (fun K hK => ?_) AllReadyH.nil
  go_simp
  refine (number_at s 30 2 32 n30 rfl (by omega) N30.out _).mono ?_
  rintro e w9 ⟨rfl, rfl⟩
  dsimp only
  refine hK.out _ _ trivial (fun hHeld => ?_)
  clear hK K hHeld
  (try simp only [Act.put, List.getElem_toArray, List.getElem_cons_succ, List.getElem_cons_zero, List.setIfInBounds_toArray, List.set_cons_zero, List.set_cons_succ])
  (refine wpAnyH_take (i := 7) (v := ?_) rfl (by kernel_rfl) (by kernel_rfl) (by kernel_rfl) (fun _ _ _ h => h) (Or.inl ⟨by rfl, ?_⟩) trivial ?_; rotate_left; (· (intro w hSw; have e := W30.out; have e2 := M30.out; go_simp; try with_reducible rfl)); (try simp only [Act.put, List.getElem_toArray, List.getElem_cons_succ, List.getElem_cons_zero, List.setIfInBounds_toArray, List.set_cons_zero, List.set_cons_succ]))
  refine wpAnyH_ready (rs := [10]) (by kernel_rfl) (by simp) ?_
  refine AllReadyH.cons rfl (fun K hK => ?_) AllReadyH.nil
  go_simp
  refine (number_at s 32 2 34 n32 rfl (by omega) N32.out _).mono ?_
  rintro e w9 ⟨rfl, rfl⟩
  dsimp only
  refine hK.out _ _ trivial (fun hHeld => ?_)
  clear hK K hHeld
  (try simp only [Act.put, List.getElem_toArray, List.getElem_cons_succ, List.getElem_cons_zero, List.setIfInBounds_toArray, List.set_cons_zero, List.set_cons_succ])
  (refine wpAnyH_take (i := 11) (v := ?_) rfl (by kernel_rfl) (by kernel_rfl) (by kernel_rfl) (fun _ _ _ h => h) (Or.inl ⟨by rfl, ?_⟩) trivial ?_; rotate_left; (· (intro w hSw; have e := W32.out; have e2 := M32.out; go_simp; try with_reducible rfl)); (try simp only [Act.put, List.getElem_toArray, List.getElem_cons_succ, List.getElem_cons_zero, List.setIfInBounds_toArray, List.set_cons_zero, List.set_cons_succ]))
  refine wpAnyH_ready (rs := [13]) (by kernel_rfl) (by simp) ?_
  refine AllReadyH.cons rfl (fun K hK => ?_) AllReadyH.nil
  rw [if_pos (by rfl)]
  refine wp_store_cell _ _ _ rfl ⟨g, 11, none⟩ (.int .u16 (n28 : Nat)) rfl rfl (by have c := E0.out.blk.cell 11; simp only [pdA11] at c; have fr := E0.out.blk.free 11; go_simp) ?_
  refine hK.out _ _ trivial (fun hHeld => ?_)
  clear hK K hHeld
  (try simp only [Act.put, List.getElem_toArray, List.getElem_cons_succ, List.getElem_cons_zero, List.setIfInBounds_toArray, List.set_cons_zero, List.set_cons_succ])
  have E1 := Lib.hid (E0.out.put 11 (.int .u16 (n28 : Nat)) (nmP k f n8 n16 n20 n28 0 0 0 0) rfl)
  generalize World.setCell _ ⟨g, 11, none⟩ (.int .u16 (n28 : Nat)) = w14 at *
  clear E0
  (refine wpAnyH_take (i := 14) (v := ?_) rfl (by kernel_rfl) (by kernel_rfl) (by kernel_rfl) (fun _ _ _ h => h) (Or.inl ⟨by rfl, ?_⟩) trivial ?_; rotate_left; (· (intro w hSw; go_simp; try with_reducible rfl)); (try simp only [Act.put, List.getElem_toArray, List.getElem_cons_succ, List.getElem_cons_zero, List.setIfInBounds_toArray, List.set_cons_zero, List.set_cons_succ]))
  refine wpAnyH_ready (rs := [15]) (by kernel_rfl) (by simp) ?_
  refine AllReadyH.cons rfl (fun K hK => ?_) AllReadyH.nil
  rw [if_pos (by rfl)]
  refine wp_store_cell _ _ _ rfl ⟨g, 12, none⟩ (.int .u16 (n30 : Nat)) rfl rfl (by have c := E1.out.blk.cell 12; simp only [pdA12] at c; have fr := E1.out.blk.free 12; go_simp) ?_
  refine hK.out _ _ trivial (fun hHeld => ?_)
  clear hK K hHeld
  (try simp only [Act.put, List.getElem_toArray, List.getElem_cons_succ, List.getElem_cons_zero, List.setIfInBounds_toArray, List.set_cons_zero, List.set_cons_succ])
  have E2 := Lib.hid (E1.out.put 12 (.int .u16 (n30 : Nat)) (nmP k f n8 n16 n20 n28 n30 0 0 0) rfl)
  generalize World.setCell _ ⟨g, 12, none⟩ (.int .u16 (n30 : Nat)) = w15 at *
  clear E1
  (refine wpAnyH_take (i := 16) (v := ?_) rfl (by kernel_rfl) (by kernel_rfl) (by kernel_rfl) (fun _ _ _ h => h) (Or.inl ⟨by rfl, ?_⟩) trivial ?_; rotate_left; (· (intro w hSw; go_simp; try with_reducible rfl)); (try simp only [Act.put, List.getElem_toArray, List.getElem_cons_succ, List.getElem_cons_zero, List.setIfInBounds_toArray, List.set_cons_zero, List.set_cons_succ]))
  refine wpAnyH_ready (rs := [17]) (by kernel_rfl) (by simp) ?_
  refine AllReadyH.cons rfl (fun K hK => ?_) AllReadyH.nil
  rw [if_pos (by rfl)]
  refine wp_store_cell _ _ _ rfl ⟨g, 13, none⟩ (.int .u16 (n32 : Nat)) rfl rfl (by have c := E2.out.blk.cell 13; simp only [pdA13] at c; have fr := E2.out.blk.free 13; go_simp) ?_
  refine hK.out _ _ trivial (fun hHeld => ?_)
  clear hK K hHeld
  (try simp only [Act.put, List.getElem_toArray, List.getElem_cons_succ, List.getElem_cons_zero, List.setIfInBounds_toArray, List.set_cons_zero, List.set_cons_succ])
  have E3 := Lib.hid (E2.out.put 13 (.int .u16 (n32 : Nat)) (nmP k f n8 n16 n20 n28 n30 n32 0 0) rfl)
  generalize World.setCell _ ⟨g, 13, none⟩ (.int .u16 (n32 : Nat)) = w16 at *
  clear E2
  refine wpAnyH_done (by kernel_rfl) ?_ _
  clear l28 l30 l32 h30 h32 h34
  go_upto_region 18 with fail
  have E0 := Lib.hid (show Dr w w.heap.size g (nmP k f n8 n16 n20 n28 n30 n32 0 0) w16.drew from Dr.drew E3.out)
  clear E3
  have h36 : (36 : Int) ≤ (s.size : Int) := by omega
  have h38 : (38 : Int) ≤ (s.size : Int) := by omega
  have l34 : (n34 : Int) < 65536 := by have := L34.out; omega
  have l36 : (n36 : Int) < 65536 := by have := L36.out; omega
  refine wp_region_held_drew (S := fun _ => True) (by kernel_rfl) trivial (fun hHeld => ?_)
  clear hHeld
  generalize w16.drew = w17 at *
  (refine wpAnyH_take (i := 0) (v := ?_) rfl (by kernel_rfl) (by kernel_rfl) (by kernel_rfl) (fun _ _ _ h => h) (Or.inl ⟨by rfl, ?_⟩) trivial ?_; rotate_left; (· (intro w hSw; go_simp; try with_reducible rfl)); (try simp only [Act.put, List.getElem_toArray, List.getElem_cons_succ, List.getElem_cons_zero, List.setIfInBounds_toArray, List.set_cons_zero, List.set_cons_succ]))
  (refine wpAnyH_take (i := 1) (v := ?_) rfl (by kernel_rfl) (by kernel_rfl) (by kernel_rfl) (fun _ _ _ h => h) (Or.inl ⟨by rfl, ?_⟩) trivial ?_; rotate_left; (· (intro w hSw; have e := h36; go_simp; try with_reducible rfl)); (try simp only [Act.put, List.getElem_toArray, List.getElem_cons_succ, List.getElem_cons_zero, List.setIfInBounds_toArray, List.set_cons_zero, List.set_cons_succ]))
  (refine wpAnyH_take (i := 4) (v := ?_) rfl (by kernel_rfl) (by kernel_rfl) (by kernel_rfl) (fun _ _ _ h => h) (Or.inl ⟨by rfl, ?_⟩) trivial ?_; rotate_left; (· (intro w hSw; go_simp; try with_reducible rfl)); (try simp only [Act.put, List.getElem_toArray, List.getElem_cons_succ, List.getElem_cons_zero, List.setIfInBounds_toArray, List.set_cons_zero, List.set_cons_succ]))
  (refine wpAnyH_take (i := 5) (v := ?_) rfl (by kernel_rfl) (by kernel_rfl) (by kernel_rfl) (fun _ _ _ h => h) (Or.inl ⟨by rfl, ?_⟩) trivial ?_; rotate_left; (· (intro w hSw; have e := h38; go_simp; try with_reducible rfl)); (try simp only [Act.put, List.getElem_toArray, List.getElem_cons_succ, List.getElem_cons_zero, List.setIfInBounds_toArray, List.set_cons_zero, List.set_cons_succ]))
  refine wpAnyH_ready (rs := [2]) (by kernel_rfl) (by simp) ?_
  refine AllReadyH.cons rfl (fun K hK => ?_) AllReadyH.nil
  go_simp
  refine (number_at s 34 2 36 n34 rfl (by omega) N34.out _).mono ?_
  rintro e w9 ⟨rfl, rfl⟩
  dsimp only
  refine hK.out _ _ trivial (fun hHeld => ?_)
  clear hK K hHeld
  (try simp only [Act.put, List.getElem_toArray, List.getElem_cons_succ, List.getElem_cons_zero, List.setIfInBounds_toArray, List.set_cons_zero, List.set_cons_succ])
  (refine wpAnyH_take (i := 3) (v := ?_) rfl (by kernel_rfl) (by kernel_rfl) (by kernel_rfl) (fun _ _ _ h => h) (Or.inl ⟨by rfl, ?_⟩) trivial ?_; rotate_left; (· (intro w hSw; have e := W34.out; have e2 := M34.out; go_simp; try with_reducible rfl)); (try simp only [Act.put, List.getElem_toArray, List.getElem_cons_succ, List.getElem_cons_zero, List.setIfInBounds_toArray, List.set_cons_zero, List.set_cons_succ]))
  (refine wpAnyH_take (i := 8) (v := ?_) rfl (by kernel_rfl) (by kernel_rfl) (by kernel_rfl) (fun _ _ _ h => h) (Or.inl ⟨by rfl, ?_⟩) trivial ?_; rotate_left; (· (intro w hSw; go_simp; try with_reducible rfl)); (try simp only [Act.put, List.getElem_toArray, List.getElem_cons_succ, List.getElem_cons_zero, List.setIfInBounds_toArray, List.set_cons_zero, List.set_cons_succ]))
  refine wpAnyH_ready (rs := [6]) (by kernel_rfl) (by simp) ?_
  refine AllReadyH.cons rfl (fun K hK => ?_) AllReadyH.nil
  go_simp
  refine (number_at s 36 2 38 n36 rfl (by omega) N36.out _).mono ?_
  rintro e w9 ⟨rfl, rfl⟩
  dsimp only
  refine hK.out _ _ trivial (fun hHeld => ?_)
  clear hK K hHeld
  (try simp only [Act.put, List.getElem_toArray, List.getElem_cons_succ, List.getElem_cons_zero, List.setIfInBounds_toArray, List.set_cons_zero, List.set_cons_succ])
  (refine wpAnyH_take (i := 7) (v := ?_) rfl (by kernel_rfl) (by kernel_rfl) (by kernel_rfl) (fun _ _ _ h => h) (Or.inl ⟨by rfl, ?_⟩) trivial ?_; rotate_left; (· (intro w hSw; have e := W36.out; have e2 := M36.out; go_simp; try with_reducible rfl)); (try simp only [Act.put, List.getElem_toArray, List.getElem_cons_succ, List.getElem_cons_zero, List.setIfInBounds_toArray, List.set_cons_zero, List.set_cons_succ]))
  refine wpAnyH_ready (rs := [9]) (by kernel_rfl) (by simp) ?_
  refine AllReadyH.cons rfl (fun K hK => ?_) AllReadyH.nil
  rw [if_pos (by rfl)]
  refine wp_store_cell _ _ _ rfl ⟨g, 14, none⟩ (.int .u16 (n34 : Nat)) rfl rfl (by have c := E0.out.blk.cell 14; simp only [pdA14] at c; have fr := E0.out.blk.free 14; go_simp) ?_
  refine hK.out _ _ trivial (fun hHeld => ?_)
  clear hK K hHeld
  (try simp only [Act.put, List.getElem_toArray, List.getElem_cons_succ, List.getElem_cons_zero, List.setIfInBounds_toArray, List.set_cons_zero, List.set_cons_succ])
  have E1 := Lib.hid (E0.out.put 14 (.int .u16 (n34 : Nat)) (nmP k f n8 n16 n20 n28 n30 n32 n34 0) rfl)
  generalize World.setCell _ ⟨g, 14, none⟩ (.int .u16 (n34 : Nat)) = w18 at *
  clear E0
  (refine wpAnyH_take (i := 10) (v := ?_) rfl (by kernel_rfl) (by kernel_rfl) (by kernel_rfl) (fun _ _ _ h => h) (Or.inl ⟨by rfl, ?_⟩) trivial ?_; rotate_left; (· (intro w hSw; go_simp; try with_reducible rfl)); (try simp only [Act.put, List.getElem_toArray, List.getElem_cons_succ, List.getElem_cons_zero, List.setIfInBounds_toArray, List.set_cons_zero, List.set_cons_succ]))
  refine wpAnyH_ready (rs := [11]) (by kernel_rfl) (by simp) ?_
  refine AllReadyH.cons rfl (fun K hK => ?_) AllReadyH.nil
  rw [if_pos (by rfl)]
  refine wp_store_cell _ _ _ rfl ⟨g, 15, none⟩ (.int .u16 (n36 : Nat)) rfl rfl (by have c := E1.out.blk.cell 15; simp only [pdA15] at c; have fr := E1.out.blk.free 15; go_simp) ?_
  refine hK.out _ _ trivial (fun hHeld => ?_)
  clear hK K hHeld
  (try simp only [Act.put, List.getElem_toArray, List.getElem_cons_succ, List.getElem_cons_zero, List.setIfInBounds_toArray, List.set_cons_zero, List.set_cons_succ])
  have E2 := Lib.hid (E1.out.put 15 (.int .u16 (n36 : Nat)) (nmP k f n8 n16 n20 n28 n30 n32 n34 n36) rfl)
  generalize World.setCell _ ⟨g, 15, none⟩ (.int .u16 (n36 : Nat)) = w19 at *
  clear E1
  refine wpAnyH_done (by kernel_rfl) ?_ _
  clear l34 l36 h36 h38
  obtain ⟨q, hq⟩ : ∃ q, q = nmP k f n8 n16 n20 n28 n30 n32 n34 n36 := ⟨_, rfl⟩
  rw [← hq] at EI PI E2
  clear hq DQ
  by_cases hG : goodP q = true
  · by_cases hz : z = 0
    · have EE := Lib.hid (show decE s = 0 by rw [EI.out, if_neg (fun c => c ⟨hG, fun _ => hz⟩)])
      have PP := Lib.hid (show decP s = q by rw [PI.out, if_pos EE.out])
      have GD := Lib.hid (show goodP q = true from hG)
      have zf := z_nil Z38.out hz
      clear hz
      clear hG
      go_wp2_with (first
        | (refine wpList_load_row rfl 38 _ rfl g rfl 38 _ (0, 0) _ E2.out.blk Try.underlying38 rfl hi.out ?_)
        | (go_at_call 31; refine (rgood_any q _).mono ?_; rintro e w20 ⟨rfl, hb⟩; rw [GD.out]
           have G2 := Lib.hid (E2.out.next hb); clear hb)
        | (refine wpList_load_row rfl 38 _ rfl g rfl 38 _ (0, 0) _ G2.out.blk Try.underlying38 rfl hi.out ?_)
        | (refine wpList_store_row rfl 38 _ _ rfl w.heap.size (pdA q) rfl rfl 38 nil16 G2.out.r0 hi.out rfl (pdA_one q) ?_))
      exact bodyPost_ret (v := .tuple #[.agg (pdA q), .int .i64 0]) (results_row_tmp Try.results18 _ _ w.heap.size 38 (pdA q) _ _ rfl rfl (G2.out.r0.row _) Try.underlying38 rfl hi.out) rfl ⟨ret_dec (by rw [PP.out]) EE.out.symm, below_setRow G2.out.below (Nat.le_refl _) _⟩
    · have EE := Lib.hid (show decE s = 4 by rw [EI.out, if_pos (fun c => hz (c.2 HK0.out))])
      have PP := Lib.hid (show decP s = kindP 0 by rw [PI.out, if_neg (by rw [EE.out]; omega)])
      have GD := Lib.hid (show goodP q = true from hG)
      have zf := z_not Z38.out hz
      clear hz
      clear hG
      go_wp2_with (first
        | (refine wpList_load_row rfl 38 _ rfl g rfl 38 _ (0, 0) _ E2.out.blk Try.underlying38 rfl hi.out ?_)
        | (go_at_call 31; refine (rgood_any q _).mono ?_; rintro e w20 ⟨rfl, hb⟩; rw [GD.out]
           have G2 := Lib.hid (E2.out.next hb); clear hb)
        | (refine wpList_load_row rfl 38 _ rfl g rfl 38 _ (0, 0) _ G2.out.blk Try.underlying38 rfl hi.out ?_)
        | (refine wpList_store_row rfl 38 _ _ rfl w.heap.size nil16 rfl rfl 38 nil16 G2.out.r0 hi.out rfl ho.out ?_))
      exact bodyPost_ret (v := .tuple #[.agg nil16, .int .i64 4]) (results_row_tmp Try.results18 _ _ w.heap.size 38 nil16 _ _ rfl rfl (G2.out.r0.row _) Try.underlying38 rfl hi.out) rfl ⟨ret_dec (by rw [PP.out]; rfl) EE.out.symm, below_setRow G2.out.below (Nat.le_refl _) _⟩
  · have EE := Lib.hid (show decE s = 4 by rw [EI.out, if_pos (fun c => hG c.1)])
    have PP := Lib.hid (show decP s = kindP 0 by rw [PI.out, if_neg (by rw [EE.out]; omega)])
    have GD := Lib.hid (show goodP q = false by simpa using hG)
    clear hG
    go_wp2_with (first
      | (refine wpList_load_row rfl 38 _ rfl g rfl 38 _ (0, 0) _ E2.out.blk Try.underlying38 rfl hi.out ?_)
      | (go_at_call 31; refine (rgood_any q _).mono ?_; rintro e w20 ⟨rfl, hb⟩; rw [GD.out]
         have G2 := Lib.hid (E2.out.next hb); clear hb)
      | (refine wpList_load_row rfl 38 _ rfl g rfl 38 _ (0, 0) _ G2.out.blk Try.underlying38 rfl hi.out ?_)
      | (refine wpList_store_row rfl 38 _ _ rfl w.heap.size nil16 rfl rfl 38 nil16 G2.out.r0 hi.out rfl ho.out ?_))
    exact bodyPost_ret (v := .tuple #[.agg nil16, .int .i64 4]) (results_row_tmp Try.results18 _ _ w.heap.size 38 nil16 _ _ rfl rfl (G2.out.r0.row _) Try.underlying38 rfl hi.out) rfl ⟨ret_dec (by rw [PP.out]; rfl) EE.out.symm, below_setRow G2.out.below (Nat.le_refl _) _⟩

end Go.Proofs.Ytkohnleeiajiiaa
