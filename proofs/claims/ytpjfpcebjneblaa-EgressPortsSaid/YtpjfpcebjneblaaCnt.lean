/- Count and Within. -/
import Derived.Test.YtpjfpcebjneblaaAll
import Derived.Test.YtpjfpcebjneblaaBks
import Derived.Lib.BitFns
import Derived.Test.YtpjfpcebjneblaaQuietly
namespace Go.Proofs.Ytpjfpcebjneblaa
open Go.RowKit Go.Shelf
set_option linter.unusedSimpArgs false
set_option linter.unusedVariables false
attribute [local go_sem] Oper.semAt_some

theorem grown_below' {a b : World} {row : Option Nat} {B : Nat} (h : a.grownBy b row) (hr : ∀ k, row = some k → B ≤ k) (hB : B ≤ a.heap.size) : Below B a b :=
  ⟨h.os, h.tape, h.output, h.size, fun i hi => h.block i (by omega) (fun q => by have := hr i q.symm; omega)⟩
theorem kn_own {β : Type} {w0 : World} {B : Nat} (hB : w0.heap.size ≤ B) (f : β → List (Nat × Array Value × TypeId)) : OwnFrom B (fun s W => Kn w0 (f s) W) := by
  intro s W W' row h hg hr
  refine ⟨fun x hx => (h.all x hx).grown hg (fun e => ?_), h.below.trans (grown_below' hg (fun r e => Nat.le_trans hB (hr r e).1) h.below.size)⟩
  obtain ⟨-, o, ho, hc⟩ := hr _ e.symm
  have := h.all x hx
  unfold Blk at this
  rw [this] at ho
  cases ho
  cases hc
theorem keepsAt_setCell {b : Nat} (W : World) (a : Addr) (h : b ≠ a.block) (u : Value) : KeepsAt b W (W.setCell a u) := fun o ho _ => (Below.heap_setCell W a u b h).trans ho
theorem int_i64 {a b : Int} (h : a = b) : Value.int .i64 a = .int .i64 b := by rw [h]

/-- Bits of a number below 65536. -/
def ones : Nat → Nat → Nat
  | 0, _ => 0
  | k + 1, s => ones k s + s / 2 ^ k % 2
theorem upto_ones (s : Nat) : ∀ k, k ≤ 16 → (upto s k).length = ones k s := by
  intro k
  induction k with
  | zero => intro _; rfl
  | succ k ih =>
    intro h
    have e := hasB_at s k (by omega)
    cases q : hasB s ((k : Int) + 1) with
    | true =>
      rw [upto_yes q, List.length_append, ih (by omega), ones]
      rw [q] at e
      have := of_decide_eq_true e.symm
      rw [this]
      rfl
    | false =>
      rw [upto_no q, ih (by omega), ones]
      rw [q] at e
      have := of_decide_eq_false e.symm
      omega
theorem pop8_ones : ∀ n : Fin 256, Lib.pop8 (n.val : Int) = (ones 8 n.val : Nat) := by decide +kernel
theorem dig_low (s k : Nat) (h : k < 8) : s % 256 / 2 ^ k % 2 = s / 2 ^ k % 2 := by
  have := Nat.testBit_mod_two_pow s 8 k
  rw [decide_eq_true h, Bool.true_and, Nat.testBit_eq_decide_div_mod_eq, Nat.testBit_eq_decide_div_mod_eq, decide_eq_decide] at this
  rw [show (256 : Nat) = 2 ^ 8 from rfl]
  generalize s % 2 ^ 8 / 2 ^ k = a at *
  generalize s / 2 ^ k = b at *
  omega
theorem ones_low (s : Nat) : ∀ k, k ≤ 8 → ones k (s % 256) = ones k s := by
  intro k
  induction k with
  | zero => intro _; rfl
  | succ k ih =>
    intro h
    rw [ones, ones, ih (by omega), dig_low s k (by omega)]
theorem ones_high (s : Nat) : ∀ k, k ≤ 8 → ones (8 + k) s = ones 8 (s % 256) + ones k (s / 256 % 256) := by
  intro k
  induction k with
  | zero => intro _; exact (ones_low s 8 (by omega)).symm
  | succ k ih =>
    intro h
    have e : s / 2 ^ (8 + k) = s / 256 / 2 ^ k := by rw [Nat.div_div_eq_div_mul, Nat.pow_add]
    rw [show 8 + (k + 1) = (8 + k) + 1 by omega, ones, ih (by omega), show ones (k + 1) (s / 256 % 256) = ones k (s / 256 % 256) + s / 256 % 256 / 2 ^ k % 2 from rfl, dig_low _ k (by omega), e, Nat.add_assoc]
theorem ones_split (s : Nat) : ones 16 s = ones 8 (s % 256) + ones 8 (s / 256 % 256) := ones_high s 8 (by omega)
theorem count_ones (s : Nat) : Lib.pop8 ((s % 256 : Nat) : Int) + Lib.pop8 ((s / 256 % 256 : Nat) : Int) = ((portsL s).length : Nat) := by
  rw [pop8_ones ⟨s % 256, by omega⟩, pop8_ones ⟨s / 256 % 256, by omega⟩]
  unfold portsL
  rw [upto_ones s 16 (by omega), ones_split s]
  exact (Int.natCast_add _ _).symm


theorem tab_val (X : ByteArray) (hX : X = Lib.pop8tab) (i : Nat) (hi : i < 256) (w : World) : (Instr.index 9 (.string X) (.int .u32 (i : Nat))).run Try.prog w = .ok (.int .u8 (Lib.pop8 (i : Nat))) w := by
  rw [hX]
  exact Lib.run_index_pop8tab w 9 .u32 i (by kernel_rfl) (by omega) (by omega)
theorem tab_op (o : Oper) (ev : Operand → Value) (X : ByteArray) (t : Operand) (ho : o.op = .index 9 (.const (.string X)) t) (hX : X = Lib.pop8tab) (i : Nat) (hi : i < 256) (ht : ev t = .int .u32 (i : Nat)) (hc : ev (.const (.string X)) = .string X) (w : World) :
    (execOp ev o).run Try.prog w = .ok (.value (.int .u8 (Lib.pop8 (i : Nat)))) w := by
  have e := tab_val X hX i hi w
  unfold execOp
  simp only [ho, ht, hc]
  clear hX
  go_simp
theorem wrap_u8 (x : Int) (h : 0 ≤ x) (h2 : x ≤ 255) : IntKind.u8.wrap x = x := by
  have : IntKind.u8.wrap x = x % 256 := rfl
  omega
theorem wrap_i64 (x : Int) (h : 0 ≤ x) (h2 : x ≤ 255) : IntKind.i64.wrap x = x := by
  have e : ∀ n : Nat, n < 256 → IntKind.i64.wrap (n : Int) = n := by decide +kernel
  have := e x.toNat (by omega)
  rwa [Int.toNat_of_nonneg h] at this
theorem pop8_le (i : Nat) (hi : i < 256) : 0 ≤ Lib.pop8 (i : Nat) ∧ Lib.pop8 (i : Nat) ≤ 8 := by
  have key : ∀ n : Fin 256, 0 ≤ Lib.pop8 (n.val : Int) ∧ Lib.pop8 (n.val : Int) ≤ 8 := by decide +kernel
  exact key ⟨i, hi⟩
theorem pop8_zero : Lib.pop8 ((0 : Nat) : Int) = 0 := by decide +kernel
structure DrawnC (w0 w : World) : Prop where
  ok : ∃ n, w = w0.drewN n
attribute [local irreducible] wpQuiet
set_option maxRecDepth 100000 in
set_option maxHeartbeats 2000000 in
theorem count8_any (s : Nat) (w : World) (hs : s < 65536) : Calls Try.prog 47 #[.int .u32 (s : Nat)] w fun e w' => e = .returned (.int .i64 ((portsL s).length : Nat)) ∧ Below w.heap.size w w' := by
  have hC0 : Below w.heap.size w w := Below.refl _ _
  obtain ⟨q, hq⟩ : ∃ q, q = s / 256 := ⟨_, rfl⟩
  obtain ⟨a, ha⟩ : ∃ a, a = q % 256 := ⟨_, rfl⟩
  obtain ⟨b, hb⟩ : ∃ b, b = s % 256 := ⟨_, rfl⟩
  have R := Lib.hid (show Lib.pop8 (b : Nat) + Lib.pop8 (a : Nat) = ((portsL s).length : Nat) by rw [ha, hb, hq]; exact count_ones s)
  have la : a < 256 := by omega
  have lb : b < 256 := by omega
  obtain ⟨l1, l1x⟩ := pop8_le b lb
  obtain ⟨l2, l2x⟩ := pop8_le a la
  have d1 : (s : Int) / 16777216 = 0 := by omega
  have d2 : (s : Int) / 65536 = 0 := by omega
  have d3 : (s : Int) / 256 = (q : Int) := by omega
  have d4 : bits .and .u32 (q : Int) 255 = (a : Int) := by rw [show (255 : Int) = ((255 : Nat) : Int) from rfl, u32_and_nat _ 255 (by omega) (by omega), Nat.and_two_pow_sub_one_eq_mod q 8, ha]
  have d5 : bits .and .u32 (s : Int) 255 = (b : Int) := by rw [show (255 : Int) = ((255 : Nat) : Int) from rfl, u32_and_nat _ 255 (by omega) (by omega), Nat.and_two_pow_sub_one_eq_mod s 8, hb]
  have d6 : bits .and .u32 0 255 = 0 := by decide +kernel
  clear ha hb hq
  have z := pop8_zero
  go_enter Try.func47, Try.ntmps47
  go_upto_region 1 with (fail)
  refine wp_region_quiet (C := fun w' => Below w.heap.size w w') (by kernel_rfl) (by kernel_rfl) hC0.drew ?_
  (refine q_val (v := ?_) (by rfl) ?_ ?_; rotate_left; (· (intro w hC; go_simp; try with_reducible rfl)); (try simp only [Act.put, List.getElem_toArray, List.getElem_cons_succ, List.getElem_cons_zero, List.setIfInBounds_toArray, List.set_cons_zero, List.set_cons_succ]))
  (refine q_val (v := .int .u32 (0 : Nat)) (by rfl) (fun w hC => by go_simp; (try rfl); (try first | (rw [wrap_u8 _ (by omega) (by omega)]; try omega) | (rw [wrap_i64 _ (by omega) (by omega)]; try omega))) ?_; (try simp only [Act.put, List.getElem_toArray, List.getElem_cons_succ, List.getElem_cons_zero, List.setIfInBounds_toArray, List.set_cons_zero, List.set_cons_succ]))
  (refine q_val (v := .int .u8 (Lib.pop8 (0 : Nat))) (by rfl) (fun w hC => tab_op _ _ _ _ rfl (by kernel_rfl) (0) (by omega) rfl rfl w) ?_; (try simp only [Act.put, List.getElem_toArray, List.getElem_cons_succ, List.getElem_cons_zero, List.setIfInBounds_toArray, List.set_cons_zero, List.set_cons_succ]))
  (refine q_val (v := ?_) (by rfl) ?_ ?_; rotate_left; (· (intro w hC; go_simp; try with_reducible rfl)); (try simp only [Act.put, List.getElem_toArray, List.getElem_cons_succ, List.getElem_cons_zero, List.setIfInBounds_toArray, List.set_cons_zero, List.set_cons_succ]))
  (refine q_val (v := .int .u32 (0 : Nat)) (by rfl) (fun w hC => by go_simp; (try rfl); (try first | (rw [wrap_u8 _ (by omega) (by omega)]; try omega) | (rw [wrap_i64 _ (by omega) (by omega)]; try omega))) ?_; (try simp only [Act.put, List.getElem_toArray, List.getElem_cons_succ, List.getElem_cons_zero, List.setIfInBounds_toArray, List.set_cons_zero, List.set_cons_succ]))
  (refine q_val (v := .int .u32 (0 : Nat)) (by rfl) (fun w hC => by go_simp; (try rfl); (try first | (rw [wrap_u8 _ (by omega) (by omega)]; try omega) | (rw [wrap_i64 _ (by omega) (by omega)]; try omega))) ?_; (try simp only [Act.put, List.getElem_toArray, List.getElem_cons_succ, List.getElem_cons_zero, List.setIfInBounds_toArray, List.set_cons_zero, List.set_cons_succ]))
  (refine q_val (v := .int .u8 (Lib.pop8 (0 : Nat))) (by rfl) (fun w hC => tab_op _ _ _ _ rfl (by kernel_rfl) (0) (by omega) rfl rfl w) ?_; (try simp only [Act.put, List.getElem_toArray, List.getElem_cons_succ, List.getElem_cons_zero, List.setIfInBounds_toArray, List.set_cons_zero, List.set_cons_succ]))
  (refine q_val (v := .int .u8 (0 : Nat)) (by rfl) (fun w hC => by go_simp; (try rfl); (try first | (rw [wrap_u8 _ (by omega) (by omega)]; try omega) | (rw [wrap_i64 _ (by omega) (by omega)]; try omega))) ?_; (try simp only [Act.put, List.getElem_toArray, List.getElem_cons_succ, List.getElem_cons_zero, List.setIfInBounds_toArray, List.set_cons_zero, List.set_cons_succ]))
  (refine q_val (v := ?_) (by rfl) ?_ ?_; rotate_left; (· (intro w hC; go_simp; try with_reducible rfl)); (try simp only [Act.put, List.getElem_toArray, List.getElem_cons_succ, List.getElem_cons_zero, List.setIfInBounds_toArray, List.set_cons_zero, List.set_cons_succ]))
  (refine q_val (v := .int .u32 (q : Nat)) (by rfl) (fun w hC => by go_simp; (try rfl); (try first | (rw [wrap_u8 _ (by omega) (by omega)]; try omega) | (rw [wrap_i64 _ (by omega) (by omega)]; try omega))) ?_; (try simp only [Act.put, List.getElem_toArray, List.getElem_cons_succ, List.getElem_cons_zero, List.setIfInBounds_toArray, List.set_cons_zero, List.set_cons_succ]))
  (refine q_val (v := .int .u32 (a : Nat)) (by rfl) (fun w hC => by go_simp; (try rfl); (try first | (rw [wrap_u8 _ (by omega) (by omega)]; try omega) | (rw [wrap_i64 _ (by omega) (by omega)]; try omega))) ?_; (try simp only [Act.put, List.getElem_toArray, List.getElem_cons_succ, List.getElem_cons_zero, List.setIfInBounds_toArray, List.set_cons_zero, List.set_cons_succ]))
  (refine q_val (v := .int .u8 (Lib.pop8 (a : Nat))) (by rfl) (fun w hC => tab_op _ _ _ _ rfl (by kernel_rfl) (a) (by omega) rfl rfl w) ?_; (try simp only [Act.put, List.getElem_toArray, List.getElem_cons_succ, List.getElem_cons_zero, List.setIfInBounds_toArray, List.set_cons_zero, List.set_cons_succ]))
  (refine q_val (v := .int .u8 (Lib.pop8 (a : Nat))) (by rfl) (fun w hC => by go_simp; (try rfl); (try first | (rw [wrap_u8 _ (by omega) (by omega)]; try omega) | (rw [wrap_i64 _ (by omega) (by omega)]; try omega))) ?_; (try simp only [Act.put, List.getElem_toArray, List.getElem_cons_succ, List.getElem_cons_zero, List.setIfInBounds_toArray, List.set_cons_zero, List.set_cons_succ]))
  (refine q_val (v := ?_) (by rfl) ?_ ?_; rotate_left; (· (intro w hC; go_simp; try with_reducible rfl)); (try simp only [Act.put, List.getElem_toArray, List.getElem_cons_succ, List.getElem_cons_zero, List.setIfInBounds_toArray, List.set_cons_zero, List.set_cons_succ]))
  (refine q_val (v := .int .u32 (b : Nat)) (by rfl) (fun w hC => by go_simp; (try rfl); (try first | (rw [wrap_u8 _ (by omega) (by omega)]; try omega) | (rw [wrap_i64 _ (by omega) (by omega)]; try omega))) ?_; (try simp only [Act.put, List.getElem_toArray, List.getElem_cons_succ, List.getElem_cons_zero, List.setIfInBounds_toArray, List.set_cons_zero, List.set_cons_succ]))
  (refine q_val (v := .int .u8 (Lib.pop8 (b : Nat))) (by rfl) (fun w hC => tab_op _ _ _ _ rfl (by kernel_rfl) (b) (by omega) rfl rfl w) ?_; (try simp only [Act.put, List.getElem_toArray, List.getElem_cons_succ, List.getElem_cons_zero, List.setIfInBounds_toArray, List.set_cons_zero, List.set_cons_succ]))
  (refine q_val (v := .int .u8 (Lib.pop8 (b : Nat) + Lib.pop8 (a : Nat))) (by rfl) (fun w hC => by go_simp; (try rfl); (try first | (rw [wrap_u8 _ (by omega) (by omega)]; try omega) | (rw [wrap_i64 _ (by omega) (by omega)]; try omega))) ?_; (try simp only [Act.put, List.getElem_toArray, List.getElem_cons_succ, List.getElem_cons_zero, List.setIfInBounds_toArray, List.set_cons_zero, List.set_cons_succ]))
  (refine q_val (v := .int .i64 (Lib.pop8 (b : Nat) + Lib.pop8 (a : Nat))) (by rfl) (fun w hC => by go_simp; (try rfl); (try first | (rw [wrap_u8 _ (by omega) (by omega)]; try omega) | (rw [wrap_i64 _ (by omega) (by omega)]; try omega))) ?_; (try simp only [Act.put, List.getElem_toArray, List.getElem_cons_succ, List.getElem_cons_zero, List.setIfInBounds_toArray, List.set_cons_zero, List.set_cons_succ]))
  (refine q_val (v := ?_) (by rfl) ?_ ?_; rotate_left; (· (intro w hC; go_simp; try with_reducible rfl)); (try simp only [Act.put, List.getElem_toArray, List.getElem_cons_succ, List.getElem_cons_zero, List.setIfInBounds_toArray, List.set_cons_zero, List.set_cons_succ]))
  refine wpQuiet_nil ?_
  intro w' hC
  go_wp2
  go_ret
  exact ⟨ret_num R.out, hC⟩

theorem and_all (s : Nat) : s &&& 65535 = s % 65536 := Nat.and_two_pow_sub_one_eq_mod s 16
theorem has_mod (s : Nat) (p : Int) : hasB (s % 65536) p = hasB s p := by
  rcases port_cases p with h | ⟨k, hk, rfl⟩
  · rw [hasB_no h, hasB_no h]
  · rw [hasB_at _ k hk, hasB_at _ k hk, ← Nat.testBit_eq_decide_div_mod_eq, ← Nat.testBit_eq_decide_div_mod_eq, show (65536 : Nat) = 2 ^ 16 from rfl, Nat.testBit_mod_two_pow, decide_eq_true hk, Bool.true_and]
theorem ports_mod (s : Nat) : portsL (s % 65536) = portsL s := by
  unfold portsL upto
  exact List.filter_congr fun p _ => has_mod s p

theorem count_any (s : Nat) (w : World) (hs : s < 4294967296) : Calls Try.prog 27 #[.int .u32 (s : Nat)] w fun e w' => e = .returned (.int .i64 ((portsL s).length : Nat)) ∧ Below w.heap.size w w' := by
  have R := Lib.hid (ports_mod s)
  obtain ⟨m, hm⟩ : ∃ m, m = s % 65536 := ⟨_, rfl⟩
  rw [← hm] at R
  have d : bits .and .u32 (s : Int) 65535 = (m : Int) := by rw [show (65535 : Int) = ((65535 : Nat) : Int) from rfl, u32_and_nat s 65535 hs (by omega), and_all, hm]
  have hl : m < 65536 := by omega
  clear hm
  go_enter Try.func27, Try.ntmps27
  go_wp2_with (go_at_call 47; refine (count8_any m _ hl).mono ?_; rintro e w' ⟨rfl, hb⟩)
  go_ret
  exact ⟨ret_num (by rw [R.out]), hb⟩

/-- Is each port of a set in another one? -/
def withinB (s t : Nat) : Bool := (portsL s).all (hasB t)
theorem within_eq (s t : Nat) (ht : t < 4294967296) : (s % 65536 &&& (4294967295 - t) == 0) = withinB s t := by
  have hT : ∀ k, k < 16 → (4294967295 - t).testBit k = !t.testBit k := by
    intro k hk
    rw [show 4294967295 - t = 2 ^ 32 - (t + 1) by omega, Nat.testBit_two_pow_sub_succ ht, decide_eq_true (show k < 32 by omega), Bool.true_and]
  rw [Bool.eq_iff_iff, beq_iff_eq]
  unfold withinB
  rw [List.all_eq_true]
  constructor
  · intro h p hp
    unfold portsL upto at hp
    rw [List.mem_filter] at hp
    rcases port_cases p with q | ⟨k, hk, rfl⟩
    · rw [hasB_no q] at hp
      exact absurd hp.2 (by simp)
    · have h1 := congrArg (fun x => x.testBit k) h
      simp only [Nat.testBit_and, Nat.zero_testBit] at h1
      have h2 := hp.2
      rw [← has_mod, hasB_at _ k hk, ← Nat.testBit_eq_decide_div_mod_eq] at h2
      rw [h2, hT k hk, Bool.true_and] at h1
      rw [hasB_at t k hk, ← Nat.testBit_eq_decide_div_mod_eq]
      simpa using h1
  · intro h
    apply Nat.eq_of_testBit_eq
    intro k
    rw [Nat.testBit_and, Nat.zero_testBit, show (65536 : Nat) = 2 ^ 16 from rfl, Nat.testBit_mod_two_pow]
    by_cases hk : k < 16
    · cases c : s.testBit k with
      | false => simp
      | true =>
        have e : hasB s ((k : Int) + 1) = true := by rw [hasB_at s k hk, ← Nat.testBit_eq_decide_div_mod_eq, c]
        have := h ((k : Int) + 1) (by
          unfold portsL upto
          rw [List.mem_filter]
          exact ⟨List.mem_map.2 ⟨k, List.mem_range.2 hk, rfl⟩, e⟩)
        rw [hasB_at t k hk, ← Nat.testBit_eq_decide_div_mod_eq] at this
        rw [hT k hk, this]
        simp
    · rw [decide_eq_false hk]
      rfl

theorem within_any (s t : Nat) (w : World) (hs : s < 4294967296) (ht : t < 4294967296) : Calls Try.prog 26 #[.int .u32 (s : Nat), .int .u32 (t : Nat)] w fun e w' => e = .returned (.bool (withinB s t)) ∧ Below w.heap.size w w' := by
  have R := within_eq s t ht
  obtain ⟨m, hm⟩ : ∃ m, m = s % 65536 := ⟨_, rfl⟩
  have d : bits .and .u32 (s : Int) 65535 = (m : Int) := by rw [show (65535 : Int) = ((65535 : Nat) : Int) from rfl, u32_and_nat s 65535 hs (by omega), and_all, hm]
  have d2 : bits .andNot .u32 (m : Int) (t : Int) = ((m &&& (4294967295 - t) : Nat) : Int) := u32_andNot_nat m t (by omega) ht
  rw [← hm] at R
  generalize (m &&& (4294967295 - t)) = z at *
  have R2 := Lib.hid (show ((z : Int) == 0) = withinB s t by rw [← R, Bool.eq_iff_iff, beq_iff_eq, beq_iff_eq]; omega)
  clear hm R
  go_enter Try.func26, Try.ntmps26
  go_wp2
  go_ret
  exact ⟨ret_b7 R2.out, Below.refl _ _⟩
end Go.Proofs.Ytpjfpcebjneblaa
