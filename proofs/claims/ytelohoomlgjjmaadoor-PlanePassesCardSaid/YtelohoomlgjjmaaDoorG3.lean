import Derived.Test.YtelohoomlgjjmaaDoorG2
import Derived.IntWalk
import Derived.Laws.BitsAllLaws
import Derived.Deep.QuietTactic
import Derived.BigQuiet
import Derived.WalkKit
import Derived.Lib.Hide
import Derived.Test.YtelohoomlgjjmaaDoorG1
import Derived.Lib.BitFns
import Derived.Test.YtelohoomlgjjmaaDoorRows
import Derived.WalkSpells
import Derived.WalkLawsBesides
import Derived.Laws.IdiomStrings
import Derived.ChangeKeysEq
import Derived.Laws.CopyOwn
import Derived.Lib.BufferWrite
set_option linter.unusedSimpArgs false
set_option linter.unusedVariables false
namespace Go.Proofs.YtelohoomlgjjmaaDoor
section
/- Has, and All: the ports of a set, rising. -/
open Go.RowKit Go.Shelf
attribute [local go_sem] Oper.semAt_some

def isPort (p : Int) : Bool := decide (1 ≤ p) && decide (p ≤ 16)
theorem hasB_no {s : Nat} {p : Int} (h : isPort p = false) : hasB s p = false := by
  unfold hasB
  unfold isPort at h
  rw [h, Bool.false_and]
theorem isPort_at (k : Nat) (h : k < 16) : isPort ((k : Int) + 1) = true := by unfold isPort; rw [decide_eq_true (by omega), decide_eq_true (by omega)]; rfl
theorem port_cases (p : Int) : isPort p = false ∨ ∃ k : Nat, k < 16 ∧ p = (k : Int) + 1 := by
  cases h : isPort p with
  | false => exact .inl rfl
  | true =>
    right
    have hp : 1 ≤ p ∧ p ≤ 16 := by
      unfold isPort at h
      simpa using h
    exact ⟨(p - 1).toNat, by omega, by omega⟩
theorem pow_k (k : Nat) (h : k < 16) : 2 ^ k < 65536 := Nat.pow_lt_pow_right (by omega) h
theorem pow_int (k : Nat) (hk : k < 16) : (2 : Int) ^ k % 4294967296 = ((2 ^ k : Nat) : Int) := by
  have h : (2 : Int) ^ k = ((2 ^ k : Nat) : Int) := by simp
  have := pow_k k hk
  rw [h]
  generalize (2 ^ k : Nat) = n at *
  omega
theorem ret_num {k : IntKind} {a b : Int} (h : a = b) : Ending.returned (.int k a) = .returned (.int k b) := by rw [h]

/-- A port's bit; none of what is no port. -/
def bitN (p : Int) : Nat := if isPort p = true then 2 ^ (p - 1).toNat else 0
theorem bitN_no {p : Int} (h : isPort p = false) : bitN p = 0 := by unfold bitN; rw [h]; rfl
theorem bitN_at (k : Nat) (h : k < 16) : bitN ((k : Int) + 1) = 2 ^ k := by unfold bitN; rw [isPort_at k h, if_pos rfl, show ((k : Int) + 1 - 1).toNat = k by omega]
theorem bitN_lt (p : Int) : bitN p < 65536 := by
  rcases port_cases p with h | ⟨k, hk, rfl⟩
  · rw [bitN_no h]; omega
  · rw [bitN_at k hk]; exact pow_k k hk

theorem bit_any (p : Int) (w : World) : Calls Tryd.prog 36 #[.int .i64 p] w fun e w' => e = .returned (.int .u32 (bitN p : Nat)) ∧ w = w' := by
  by_cases h1 : p < 1
  · have R := Lib.hid (show ((0 : Nat) : Int) = (bitN p : Nat) by rw [bitN_no (by unfold isPort; rw [decide_eq_false (by omega)]; rfl)])
    have e1 : decide (p < 1) = true := by simpa using h1
    clear h1
    go_enter Tryd.func36, Tryd.ntmps36
    go_wp2
    go_ret
    exact ⟨ret_num R.out, rfl⟩
  have e1 : decide (p < 1) = false := by simpa using h1
  by_cases h2 : 16 < p
  · have R := Lib.hid (show ((0 : Nat) : Int) = (bitN p : Nat) by rw [bitN_no (by unfold isPort; rw [decide_eq_false (show ¬ p ≤ 16 by omega), Bool.and_false])])
    have e2 : decide ((16 : Int) < p) = true := by simpa using h2
    clear h1 h2
    go_enter Tryd.func36, Tryd.ntmps36
    go_wp2
    go_ret
    exact ⟨ret_num R.out, rfl⟩
  have e2 : decide ((16 : Int) < p) = false := by simp; omega
  obtain ⟨k, rfl⟩ : ∃ k : Nat, p = (k : Int) + 1 := ⟨(p - 1).toNat, by omega⟩
  have hk : k < 16 := by omega
  have hk1 : (0 : Int) ≤ k := by omega
  have hk2 : (k : Int) < 16 := by omega
  have R := Lib.hid (show (2 : Int) ^ k % 4294967296 = (bitN ((k : Int) + 1) : Nat) by rw [bitN_at k hk, pow_int k hk])
  clear h1 h2
  go_enter Tryd.func36, Tryd.ntmps36
  go_wp2
  go_ret
  exact ⟨ret_num R.out, rfl⟩

theorem and_pow (s k : Nat) (hk : k < 16) : (s &&& 2 ^ k = 0) ↔ s / 2 ^ k % 2 = 0 := by
  have key : (s &&& 2 ^ k = 0) ↔ s.testBit k = false := by
    constructor
    · intro h
      have := congrArg (fun x => x.testBit k) h
      simpa [Nat.testBit_and, Nat.testBit_two_pow] using this
    · intro h
      apply Nat.eq_of_testBit_eq
      intro i
      rw [Nat.testBit_and, Nat.testBit_two_pow, Nat.zero_testBit]
      by_cases e : k = i
      · subst e
        rw [h]
        rfl
      · rw [decide_eq_false e, Bool.and_false]
  rw [key, Nat.testBit_eq_decide_div_mod_eq, decide_eq_false_iff_not]
  omega
theorem has_eq (s : Nat) (p : Int) : (s &&& bitN p != 0) = hasB s p := by
  rcases port_cases p with h | ⟨k, hk, rfl⟩
  · rw [hasB_no h, bitN_no h]
    simp
  · rw [bitN_at k hk, hasB_at s k hk, Bool.eq_iff_iff, bne_iff_ne, decide_eq_true_eq, ne_eq, and_pow s k hk]
    omega

theorem has_any (s : Nat) (p : Int) (w : World) (hs : s < 4294967296) : Calls Tryd.prog 19 #[.int .u32 (s : Nat), .int .i64 p] w fun e w' => e = .returned (.bool (hasB s p)) ∧ w = w' := by
  have R := Lib.hid (has_eq s p)
  have R2 := Lib.hid (u32_and_nat s (bitN p) hs (by have := bitN_lt p; omega))
  have R3 := Lib.hid (show ((((s &&& bitN p : Nat) : Int) != 0) = (s &&& bitN p != 0)) by rw [Bool.eq_iff_iff, bne_iff_ne, bne_iff_ne]; omega)
  go_enter Tryd.func19, Tryd.ntmps19
  go_wp2_with (go_at_call 36; refine (bit_any _ _).mono ?_; rintro e w' ⟨rfl, rfl⟩)
  go_ret
  refine ⟨ret_b7 ?_, rfl⟩
  rw [R2.out]
  exact R3.out.trans R.out

/-- The ports of a set among the first k; all of them. -/
def upto (s k : Nat) : List Int := ((List.range k).map fun j : Nat => (j : Int) + 1).filter (hasB s)
def portsL (s : Nat) : List Int := upto s 16
theorem upto_yes {s k : Nat} (h : hasB s ((k : Int) + 1) = true) : upto s (k + 1) = upto s k ++ [(k : Int) + 1] := by
  unfold upto
  rw [List.range_succ, List.map_append, List.filter_append]
  simp [h]
theorem upto_no {s k : Nat} (h : hasB s ((k : Int) + 1) = false) : upto s (k + 1) = upto s k := by
  unfold upto
  rw [List.range_succ, List.map_append, List.filter_append]
  simp [h]
theorem upto_prefix (s : Nat) : ∀ (k n : Nat), k ≤ n → upto s k <+: upto s n := by
  intro k n h
  induction n with
  | zero => rw [show k = 0 by omega]; exact List.prefix_refl _
  | succ n ih =>
    rcases Nat.eq_or_lt_of_le h with rfl | c
    · exact List.prefix_refl _
    · refine (ih (by omega)).trans ?_
      cases q : hasB s ((n : Int) + 1) with
      | true => rw [upto_yes q]; exact List.prefix_append _ _
      | false => rw [upto_no q]; exact List.prefix_refl _
theorem upto_len (s k : Nat) : (upto s k).length ≤ k := by
  unfold upto
  exact Nat.le_trans (List.length_filter_le _ _) (by simp)
end
section
/- Regions that draw their order, whose operations only read or call: walked once, in the order of the text, over a class of worlds; with no program in sight. -/
open Go.RowKit

section
variable {P : Program} {ops : Array Oper} {C : World → Prop} {Q : Act → Prop} {a : Act} {o : Oper} {rest : List Oper}

/-- An operation that is passed over. -/
theorem q_skip (hw : Region.wanted o (yielded ops a.tmps) = false) (h : wpQuiet P ops C Q rest (a.put o.dst undef)) : wpQuiet P ops C Q (o :: rest) a :=
  BigFrame.wpQuiet_skip hw h

/-- One that yields this value in every world of the class. -/
theorem q_val (v : Value) (hw : Region.wanted o (yielded ops a.tmps) = true) (hv : ∀ w, C w → (execOp a.eval o).run P w = .ok (.value v) w) (h : wpQuiet P ops C Q rest (a.put o.dst v)) : wpQuiet P ops C Q (o :: rest) a :=
  BigFrame.wpQuiet_want hw fun K hK => ⟨v, fun w hC => by unfold Oper.quietAt; rw [hv w hC]; exact ⟨rfl, rfl⟩, hK _ h⟩

/-- A call that hands back this value and leaves a world of the class. -/
theorem q_call (v : Value) (f : FuncId) (args : Array Value) (hw : Region.wanted o (yielded ops a.tmps) = true) (hv : ∀ w, C w → (execOp a.eval o).run P w = .ok (.enter f args) w)
    (hc : ∀ w, C w → Calls P f args w fun e w' => e = .returned v ∧ C w') (h : wpQuiet P ops C Q rest (a.put o.dst v)) : wpQuiet P ops C Q (o :: rest) a :=
  BigFrame.wpQuiet_want hw fun K hK => ⟨v, fun w hC => by unfold Oper.quietAt; rw [hv w hC]; exact ⟨rfl, hc w hC⟩, hK _ h⟩
end

/-- A contract that ends in 'Below', in a class that such worlds keep. -/
theorem calls_in {P : Program} {f : FuncId} {args : Array Value} {w : World} {v : Value} {C : World → Prop} (h : Calls P f args w fun e w' => e = .returned v ∧ Below w.heap.size w w') (k : ∀ w', Below w.heap.size w w' → C w') :
    Calls P f args w fun e w' => e = .returned v ∧ C w' := h.mono fun _ _ ⟨he, hb⟩ => ⟨he, k _ hb⟩
end
section
/- Count and Within. -/
open Go.RowKit Go.Shelf
attribute [local go_sem] Oper.semAt_some

theorem grown_below' {a b : World} {row : Option Nat} {B : Nat} (h : a.grownBy b row) (hr : ∀ k, row = some k → B ≤ k) (hB : B ≤ a.heap.size) : Below B a b :=
  ⟨h.os, h.tape, h.output, h.size, fun i hi => h.block i (by omega) (fun q => by have := hr i q.symm; omega)⟩
theorem kn_own {β : Type} {w0 : World} {B : Nat} (hB : w0.heap.size ≤ B) (f : β → List (Nat × Array Value × TypeId)) : OwnFrom B (fun s W => Kn w0 (f s) W) := by
  intro s W W' row h hg hr
  refine ⟨fun x hx => (h.all x hx).grown hg (fun e => ?_), h.below.trans (grown_below' hg (fun r e => Nat.le_trans hB (hr r e).1) h.below.size)⟩
  obtain ⟨-, o, ho, hc⟩ := hr _ e.symm
  have := h.all x hx
  unfold Blk at this
  rw [this] at ho
  cases ho
  cases hc
theorem keepsAt_setCell {b : Nat} (W : World) (a : Addr) (h : b ≠ a.block) (u : Value) : KeepsAt b W (W.setCell a u) := fun o ho _ => (Below.heap_setCell W a u b h).trans ho
theorem int_i64 {a b : Int} (h : a = b) : Value.int .i64 a = .int .i64 b := by rw [h]

/-- Bits of a number below 65536. -/
def ones : Nat → Nat → Nat
  | 0, _ => 0
  | k + 1, s => ones k s + s / 2 ^ k % 2
theorem upto_ones (s : Nat) : ∀ k, k ≤ 16 → (upto s k).length = ones k s := by
  intro k
  induction k with
  | zero => intro _; rfl
  | succ k ih =>
    intro h
    have e := hasB_at s k (by omega)
    cases q : hasB s ((k : Int) + 1) with
    | true =>
      rw [upto_yes q, List.length_append, ih (by omega), ones]
      rw [q] at e
      have := of_decide_eq_true e.symm
      rw [this]
      rfl
    | false =>
      rw [upto_no q, ih (by omega), ones]
      rw [q] at e
      have := of_decide_eq_false e.symm
      omega
theorem pop8_ones : ∀ n : Fin 256, Lib.pop8 (n.val : Int) = (ones 8 n.val : Nat) := by decide +kernel
theorem dig_low (s k : Nat) (h : k < 8) : s % 256 / 2 ^ k % 2 = s / 2 ^ k % 2 := by
  have := Nat.testBit_mod_two_pow s 8 k
  rw [decide_eq_true h, Bool.true_and, Nat.testBit_eq_decide_div_mod_eq, Nat.testBit_eq_decide_div_mod_eq, decide_eq_decide] at this
  rw [show (256 : Nat) = 2 ^ 8 from rfl]
  generalize s % 2 ^ 8 / 2 ^ k = a at *
  generalize s / 2 ^ k = b at *
  omega
theorem ones_low (s : Nat) : ∀ k, k ≤ 8 → ones k (s % 256) = ones k s := by
  intro k
  induction k with
  | zero => intro _; rfl
  | succ k ih =>
    intro h
    rw [ones, ones, ih (by omega), dig_low s k (by omega)]
theorem ones_high (s : Nat) : ∀ k, k ≤ 8 → ones (8 + k) s = ones 8 (s % 256) + ones k (s / 256 % 256) := by
  intro k
  induction k with
  | zero => intro _; exact (ones_low s 8 (by omega)).symm
  | succ k ih =>
    intro h
    have e : s / 2 ^ (8 + k) = s / 256 / 2 ^ k := by rw [Nat.div_div_eq_div_mul, Nat.pow_add]
    rw [show 8 + (k + 1) = (8 + k) + 1 by omega, ones, ih (by omega), show ones (k + 1) (s / 256 % 256) = ones k (s / 256 % 256) + s / 256 % 256 / 2 ^ k % 2 from rfl, dig_low _ k (by omega), e, Nat.add_assoc]
theorem ones_split (s : Nat) : ones 16 s = ones 8 (s % 256) + ones 8 (s / 256 % 256) := ones_high s 8 (by omega)
theorem count_ones (s : Nat) : Lib.pop8 ((s % 256 : Nat) : Int) + Lib.pop8 ((s / 256 % 256 : Nat) : Int) = ((portsL s).length : Nat) := by
  rw [pop8_ones ⟨s % 256, by omega⟩, pop8_ones ⟨s / 256 % 256, by omega⟩]
  unfold portsL
  rw [upto_ones s 16 (by omega), ones_split s]
  exact (Int.natCast_add _ _).symm


theorem tab_val (X : ByteArray) (hX : X = Lib.pop8tab) (i : Nat) (hi : i < 256) (w : World) : (Instr.index 9 (.string X) (.int .u32 (i : Nat))).run Tryd.prog w = .ok (.int .u8 (Lib.pop8 (i : Nat))) w := by
  rw [hX]
  exact Lib.run_index_pop8tab w 9 .u32 i (by kernel_rfl) (by omega) (by omega)
theorem tab_op (o : Oper) (ev : Operand → Value) (X : ByteArray) (t : Operand) (ho : o.op = .index 9 (.const (.string X)) t) (hX : X = Lib.pop8tab) (i : Nat) (hi : i < 256) (ht : ev t = .int .u32 (i : Nat)) (hc : ev (.const (.string X)) = .string X) (w : World) :
    (execOp ev o).run Tryd.prog w = .ok (.value (.int .u8 (Lib.pop8 (i : Nat)))) w := by
  have e := tab_val X hX i hi w
  unfold execOp
  simp only [ho, ht, hc]
  clear hX
  go_simp
theorem wrap_u8 (x : Int) (h : 0 ≤ x) (h2 : x ≤ 255) : IntKind.u8.wrap x = x := by
  have : IntKind.u8.wrap x = x % 256 := rfl
  omega
theorem wrap_i64 (x : Int) (h : 0 ≤ x) (h2 : x ≤ 255) : IntKind.i64.wrap x = x := by
  have e : ∀ n : Nat, n < 256 → IntKind.i64.wrap (n : Int) = n := by decide +kernel
  have := e x.toNat (by omega)
  rwa [Int.toNat_of_nonneg h] at this
theorem pop8_le (i : Nat) (hi : i < 256) : 0 ≤ Lib.pop8 (i : Nat) ∧ Lib.pop8 (i : Nat) ≤ 8 := by
  have key : ∀ n : Fin 256, 0 ≤ Lib.pop8 (n.val : Int) ∧ Lib.pop8 (n.val : Int) ≤ 8 := by decide +kernel
  exact key ⟨i, hi⟩
theorem pop8_zero : Lib.pop8 ((0 : Nat) : Int) = 0 := by decide +kernel
structure DrawnC (w0 w : World) : Prop where
  ok : ∃ n, w = w0.drewN n
attribute [local irreducible] wpQuiet
theorem and_all (s : Nat) : s &&& 65535 = s % 65536 := Nat.and_two_pow_sub_one_eq_mod s 16
theorem has_mod (s : Nat) (p : Int) : hasB (s % 65536) p = hasB s p := by
  rcases port_cases p with h | ⟨k, hk, rfl⟩
  · rw [hasB_no h, hasB_no h]
  · rw [hasB_at _ k hk, hasB_at _ k hk, ← Nat.testBit_eq_decide_div_mod_eq, ← Nat.testBit_eq_decide_div_mod_eq, show (65536 : Nat) = 2 ^ 16 from rfl, Nat.testBit_mod_two_pow, decide_eq_true hk, Bool.true_and]
theorem ports_mod (s : Nat) : portsL (s % 65536) = portsL s := by
  unfold portsL upto
  exact List.filter_congr fun p _ => has_mod s p

/-- Is each port of a set in another one? -/
def withinB (s t : Nat) : Bool := (portsL s).all (hasB t)
theorem within_eq (s t : Nat) (ht : t < 4294967296) : (s % 65536 &&& (4294967295 - t) == 0) = withinB s t := by
  have hT : ∀ k, k < 16 → (4294967295 - t).testBit k = !t.testBit k := by
    intro k hk
    rw [show 4294967295 - t = 2 ^ 32 - (t + 1) by omega, Nat.testBit_two_pow_sub_succ ht, decide_eq_true (show k < 32 by omega), Bool.true_and]
  rw [Bool.eq_iff_iff, beq_iff_eq]
  unfold withinB
  rw [List.all_eq_true]
  constructor
  · intro h p hp
    unfold portsL upto at hp
    rw [List.mem_filter] at hp
    rcases port_cases p with q | ⟨k, hk, rfl⟩
    · rw [hasB_no q] at hp
      exact absurd hp.2 (by simp)
    · have h1 := congrArg (fun x => x.testBit k) h
      simp only [Nat.testBit_and, Nat.zero_testBit] at h1
      have h2 := hp.2
      rw [← has_mod, hasB_at _ k hk, ← Nat.testBit_eq_decide_div_mod_eq] at h2
      rw [h2, hT k hk, Bool.true_and] at h1
      rw [hasB_at t k hk, ← Nat.testBit_eq_decide_div_mod_eq]
      simpa using h1
  · intro h
    apply Nat.eq_of_testBit_eq
    intro k
    rw [Nat.testBit_and, Nat.zero_testBit, show (65536 : Nat) = 2 ^ 16 from rfl, Nat.testBit_mod_two_pow]
    by_cases hk : k < 16
    · cases c : s.testBit k with
      | false => simp
      | true =>
        have e : hasB s ((k : Int) + 1) = true := by rw [hasB_at s k hk, ← Nat.testBit_eq_decide_div_mod_eq, c]
        have := h ((k : Int) + 1) (by
          unfold portsL upto
          rw [List.mem_filter]
          exact ⟨List.mem_map.2 ⟨k, List.mem_range.2 hk, rfl⟩, e⟩)
        rw [hasB_at t k hk, ← Nat.testBit_eq_decide_div_mod_eq] at this
        rw [hT k hk, this]
        simp
    · rw [decide_eq_false hk]
      rfl

theorem within_any (s t : Nat) (w : World) (hs : s < 4294967296) (ht : t < 4294967296) : Calls Tryd.prog 62 #[.int .u32 (s : Nat), .int .u32 (t : Nat)] w fun e w' => e = .returned (.bool (withinB s t)) ∧ Below w.heap.size w w' := by
  have R := within_eq s t ht
  obtain ⟨m, hm⟩ : ∃ m, m = s % 65536 := ⟨_, rfl⟩
  have d : bits .and .u32 (s : Int) 65535 = (m : Int) := by rw [show (65535 : Int) = ((65535 : Nat) : Int) from rfl, u32_and_nat s 65535 hs (by omega), and_all, hm]
  have d2 : bits .andNot .u32 (m : Int) (t : Int) = ((m &&& (4294967295 - t) : Nat) : Int) := u32_andNot_nat m t (by omega) ht
  rw [← hm] at R
  generalize (m &&& (4294967295 - t)) = z at *
  have R2 := Lib.hid (show ((z : Int) == 0) = withinB s t by rw [← R, Bool.eq_iff_iff, beq_iff_eq, beq_iff_eq]; omega)
  clear hm R
  go_enter Tryd.func62, Tryd.ntmps62
  go_wp2
  go_ret
  exact ⟨ret_b7 R2.out, Below.refl _ _⟩
end
end Go.Proofs.YtelohoomlgjjmaaDoor
section
/- Plain arithmetic on bits and bytes, with no program in sight: what the contracts of layer 1 say. -/
namespace Go.Proofs.YtelohoomlgjjmaaDoor.Nums

/-- Are 'a' and 'n' a place and a width of bits of a number? -/
def good (a n : Int) : Prop := 0 ≤ a ∧ a ≤ 63 ∧ 1 ≤ n ∧ n ≤ 64 - a
instance (a n : Int) : Decidable (good a n) := by unfold good; infer_instance

/-- The mask of the bits at a place. -/
def maskN (a n : Int) : Nat := if good a n then (2 ^ n.toNat - 1) * 2 ^ a.toNat else 0
/-- Some bits of a number. -/
def fieldN (x : Nat) (a n : Int) : Nat := if good a n then x / 2 ^ a.toNat % 2 ^ n.toNat else 0
/-- A number with some bits of another one. -/
def withN (x : Nat) (a n : Int) (v : Nat) : Nat :=
  if good a n then (x &&& (18446744073709551615 - maskN a n)) ||| ((v * 2 ^ a.toNat % 18446744073709551616) &&& maskN a n) else x

theorem pow_le (k : Nat) (h : k ≤ 64) : 2 ^ k ≤ 18446744073709551616 := by
  have := Nat.pow_le_pow_right (n := 2) (by omega) h
  simpa using this

theorem two_pos (k : Nat) : 0 < 2 ^ k := Nat.two_pow_pos k

theorem maskN_lt (a n : Int) : maskN a n < 18446744073709551616 := by
  unfold maskN
  split
  · rename_i h
    obtain ⟨h1, h2, h3, h4⟩ := h
    have e : 2 ^ n.toNat * 2 ^ a.toNat = 2 ^ (n.toNat + a.toNat) := (Nat.pow_add ..).symm
    have l := pow_le (n.toNat + a.toNat) (by omega)
    have p := two_pos a.toNat
    rw [Nat.sub_mul, e]
    omega
  · omega

theorem maskN_pos (a n : Int) (h : good a n) : 0 < maskN a n := by
  unfold maskN
  rw [if_pos h]
  obtain ⟨h1, h2, h3, h4⟩ := h
  have : 2 ^ 1 ≤ 2 ^ n.toNat := Nat.pow_le_pow_right (by omega) (by omega)
  exact Nat.mul_pos (by omega) (two_pos _)

theorem maskN_no (a n : Int) (h : ¬ good a n) : maskN a n = 0 := by unfold maskN; rw [if_neg h]

theorem testBit_mask (w a i : Nat) : ((2 ^ w - 1) * 2 ^ a).testBit i = (decide (a ≤ i) && decide (i < w + a)) := by
  rw [Nat.testBit_mul_two_pow, Nat.testBit_two_pow_sub_one]
  by_cases h : a ≤ i
  · simp [h]; omega
  · simp [h]

theorem and_mask_div (x w a : Nat) : (x &&& ((2 ^ w - 1) * 2 ^ a)) / 2 ^ a = x / 2 ^ a % 2 ^ w := by
  apply Nat.eq_of_testBit_eq
  intro i
  rw [Nat.testBit_div_two_pow, Nat.testBit_and, testBit_mask, Nat.testBit_mod_two_pow, Nat.testBit_div_two_pow]
  have e : decide (a ≤ i + a) = true := by simp
  have f : decide (i + a < w + a) = decide (i < w) := by simp
  rw [e, f]
  cases x.testBit (i + a) <;> simp

theorem full_div (n : Nat) (h1 : n ≤ 64) : 18446744073709551615 / 2 ^ (64 - n) = 2 ^ n - 1 := by
  have e : 2 ^ n * 2 ^ (64 - n) = 18446744073709551616 := by rw [← Nat.pow_add, show n + (64 - n) = 64 by omega]
  have p := two_pos (64 - n)
  have q := two_pos n
  apply Nat.div_eq_of_lt_le
  · rw [Nat.sub_mul, e]; omega
  · have r : 2 ^ n - 1 + 1 = 2 ^ n := by omega
    rw [r, e]; omega

theorem fieldN_eq (x : Nat) (a n : Int) (h : good a n) : (x &&& maskN a n) / 2 ^ a.toNat = fieldN x a n := by
  unfold maskN fieldN
  rw [if_pos h, if_pos h, and_mask_div]

theorem fieldN_no (x : Nat) (a n : Int) (h : ¬ good a n) : fieldN x a n = 0 := by unfold fieldN; rw [if_neg h]

theorem fieldN_le (x : Nat) (a n : Int) (hx : x < 18446744073709551616) : fieldN x a n < 18446744073709551616 := by
  unfold fieldN
  split
  · exact Nat.lt_of_le_of_lt (Nat.mod_le _ _) (Nat.lt_of_le_of_lt (Nat.div_le_self _ _) hx)
  · omega

/-- bit i of a number, as 0 or 1 -/
theorem fieldN_one (x : Nat) (i : Int) (h0 : 0 ≤ i) (h1 : i ≤ 63) : fieldN x i 1 = x / 2 ^ i.toNat % 2 := by
  unfold fieldN
  rw [if_pos ⟨h0, h1, by omega, by omega⟩]
  simp

theorem withN_lt (x : Nat) (a n : Int) (v : Nat) (hx : x < 18446744073709551616) : withN x a n v < 18446744073709551616 := by
  unfold withN
  split
  · have h1 : x &&& (18446744073709551615 - maskN a n) < 2 ^ 64 := Nat.and_lt_two_pow _ (by omega)
    have h2 : (v * 2 ^ a.toNat % 18446744073709551616) &&& maskN a n < 2 ^ 64 := Nat.and_lt_two_pow _ (by have := maskN_lt a n; omega)
    have := Nat.or_lt_two_pow h1 h2
    omega
  · exact hx

theorem testBit_full_sub (m i : Nat) (hm : m < 18446744073709551616) : (18446744073709551615 - m).testBit i = (decide (i < 64) && !m.testBit i) := by
  have := Nat.testBit_two_pow_sub_succ (x := m) (n := 64) (by simpa using hm) i
  rw [show 2 ^ 64 - (m + 1) = 18446744073709551615 - m by omega] at this
  exact this

theorem testBit_withN (x : Nat) (a n : Int) (v i : Nat) (h : good a n) (hi : i < 64) :
    (withN x a n v).testBit i = if a.toNat ≤ i ∧ i < a.toNat + n.toNat then v.testBit (i - a.toNat) else x.testBit i := by
  unfold withN
  rw [if_pos h, Nat.testBit_or, Nat.testBit_and, Nat.testBit_and, testBit_full_sub _ _ (maskN_lt a n)]
  have hm : (maskN a n).testBit i = (decide (a.toNat ≤ i) && decide (i < n.toNat + a.toNat)) := by
    unfold maskN; rw [if_pos h, testBit_mask]
  rw [hm, show (18446744073709551616 : Nat) = 2 ^ 64 by decide, Nat.testBit_mod_two_pow, Nat.testBit_mul_two_pow]
  by_cases h1 : a.toNat ≤ i
  · by_cases h2 : i < n.toNat + a.toNat
    · have h3 : i < a.toNat + n.toNat := by omega
      simp [h1, h2, h3, hi]
    · have h3 : ¬ i < a.toNat + n.toNat := by omega
      simp [h1, h2, h3, hi]
  · simp [h1, hi]

theorem bit_of_testBit (x i : Nat) : x / 2 ^ i % 2 = if x.testBit i then 1 else 0 := by
  rw [Nat.testBit_eq_decide_div_mod_eq]
  by_cases h : x / 2 ^ i % 2 = 1
  · simp [h]
  · simp [h]; omega

/-- what WireNumbers asks of each bit -/
theorem withN_bit (x : Nat) (a n : Int) (v : Nat) (h : good a n) (i : Int) (h0 : 0 ≤ i) (h1 : i ≤ 63) :
    fieldN (withN x a n v) i 1 = if a ≤ i ∧ i < a + n then fieldN v (i - a) 1 else fieldN x i 1 := by
  rw [fieldN_one _ i h0 h1, bit_of_testBit, testBit_withN x a n v i.toNat h (by omega)]
  obtain ⟨g1, g2, g3, g4⟩ := h
  by_cases c : a ≤ i ∧ i < a + n
  · have e : a.toNat ≤ i.toNat ∧ i.toNat < a.toNat + n.toNat := ⟨by omega, by omega⟩
    rw [if_pos c, if_pos e, fieldN_one _ _ (by omega) (by omega), bit_of_testBit, show (i - a).toNat = i.toNat - a.toNat by omega]
  · have e : ¬ (a.toNat ≤ i.toNat ∧ i.toNat < a.toNat + n.toNat) := by omega
    rw [if_neg c, if_neg e, fieldN_one _ _ h0 h1, bit_of_testBit]

/-- The bytes of a number, the highest first. -/
def bytesN (x : Nat) : Nat → List UInt8
  | 0 => []
  | k + 1 => UInt8.ofNat (x / 256 ^ k % 256) :: bytesN x k

theorem bytesN_length (x k : Nat) : (bytesN x k).length = k := by induction k with
  | zero => rfl
  | succ k ih => simp [bytesN, ih]

/-- A row of bytes, filled from its end on. -/
def rowU (x size k : Nat) : List UInt8 := (List.range size).map fun j => if size - k ≤ j then UInt8.ofNat (x / 256 ^ (size - 1 - j) % 256) else 0

theorem rowU_length (x size k : Nat) : (rowU x size k).length = size := by simp [rowU]

theorem rowU_zero (x size : Nat) : rowU x size 0 = List.replicate size 0 := by
  apply List.ext_getElem
  · simp [rowU]
  · intro i h1 h2
    have : i < size := by simpa [rowU] using h1
    simp [rowU]
    omega

theorem rowU_step (x size k : Nat) (h : k < size) : (rowU x size k).set (size - 1 - k) (UInt8.ofNat (x / 256 ^ k % 256)) = rowU x size (k + 1) := by
  apply List.ext_getElem
  · simp [rowU]
  · intro i h1 h2
    have hi : i < size := by simpa [rowU] using h2
    rw [List.getElem_set]
    by_cases c : size - 1 - k = i
    · subst c
      have e : size - 1 - (size - 1 - k) = k := by omega
      have f : size - (k + 1) ≤ size - 1 - k := by omega
      simp only [rowU, List.getElem_map, List.getElem_range, if_true]
      rw [if_pos f, e]
    · rw [if_neg c]
      simp only [rowU, List.getElem_map, List.getElem_range]
      by_cases d : size - k ≤ i
      · rw [if_pos d, if_pos (by omega)]
      · rw [if_neg d, if_neg (by omega)]

theorem rowU_all (x size : Nat) : rowU x size size = bytesN x size := by
  have key : ∀ n, (List.range n).map (fun j => UInt8.ofNat (x / 256 ^ (n - 1 - j) % 256)) = bytesN x n := by
    intro n
    induction n with
    | zero => rfl
    | succ n ih =>
      rw [List.range_succ_eq_map, List.map_cons, List.map_map, bytesN, ← ih]
      congr 1
      apply List.map_congr_left
      intro j hj
      have : n - (j + 1) = n - 1 - j := by omega
      simp [this]
  rw [← key]
  unfold rowU
  apply List.map_congr_left
  intro j _
  rw [if_pos (by omega)]

/-- The number in some bytes, the highest first. -/
def numL (l : List UInt8) : Nat := l.foldl (fun n c => 256 * n + c.toNat) 0

theorem numL_snoc (l : List UInt8) (c : UInt8) : numL (l ++ [c]) = 256 * numL l + c.toNat := by simp [numL]

theorem foldl_num (l : List UInt8) (a : Nat) : l.foldl (fun n c => 256 * n + c.toNat) a = a * 256 ^ l.length + numL l := by
  induction l generalizing a with
  | nil => simp [numL]
  | cons c l ih =>
    have e : numL (c :: l) = c.toNat * 256 ^ l.length + numL l := by
      show l.foldl (fun n c => 256 * n + c.toNat) (256 * 0 + c.toNat) = _
      rw [ih]
      simp
    rw [e, List.foldl_cons, ih, List.length_cons, Nat.pow_succ, Nat.add_mul, Nat.mul_comm 256 a, Nat.mul_assoc, Nat.mul_comm 256 (256 ^ l.length)]
    omega

theorem numL_cons (c : UInt8) (l : List UInt8) : numL (c :: l) = c.toNat * 256 ^ l.length + numL l := by
  show l.foldl (fun n c => 256 * n + c.toNat) (256 * 0 + c.toNat) = _
  rw [foldl_num]
  simp

theorem numL_lt (l : List UInt8) : numL l < 256 ^ l.length := by
  induction l with
  | nil => decide
  | cons c l ih =>
    rw [numL_cons, List.length_cons, Nat.pow_succ]
    have := c.toNat_lt
    have : c.toNat * 256 ^ l.length ≤ 255 * 256 ^ l.length := Nat.mul_le_mul_right _ (by omega)
    omega

theorem numL_bytesN (x k : Nat) : numL (bytesN x k) = x % 256 ^ k := by
  induction k with
  | zero => simp [bytesN, numL, Nat.mod_one]
  | succ k ih =>
    rw [bytesN, numL_cons, ih, bytesN_length]
    have : (UInt8.ofNat (x / 256 ^ k % 256)).toNat = x / 256 ^ k % 256 := by simp
    rw [this, Nat.pow_succ, Nat.mod_mul, Nat.mul_comm, Nat.add_comm]

end Go.Proofs.YtelohoomlgjjmaaDoor.Nums
end
namespace Go.Proofs.YtelohoomlgjjmaaDoor
section
/- What each function of package wire that only computes does, and the document's own answers for them. -/
open Go.RowKit

def goodSizeB (n : Int) : Bool := decide (1 ≤ n) && decide (n ≤ 8)

set_option maxHeartbeats 400000 in
theorem goodSize_any (n : Int) (w : World) :
    Calls Tryd.prog 60 #[.int .i64 n] w fun e w' => e = .returned (.bool (goodSizeB n)) ∧ w = w' := by
  unfold goodSizeB
  by_cases h1 : 1 ≤ n
  · go_enter Tryd.func60, Tryd.ntmps60
    go_wp2
    go_ret
    exact ⟨by simp; omega, rfl⟩
  · go_enter Tryd.func60, Tryd.ntmps60
    go_wp2
    go_ret
    exact ⟨by simp; omega, rfl⟩

theorem maskN_walk (a n : Int) (h : Nums.good a n) :
    IntKind.u64.wrap (18446744073709551615 / 2 ^ (64 - n).toNat * 2 ^ a.toNat) = (Nums.maskN a n : Int) := by
  have l := Nums.maskN_lt a n
  obtain ⟨h1, h2, h3, h4⟩ := h
  have e : (18446744073709551615 : Int) / 2 ^ (64 - n).toNat = ((2 ^ n.toNat - 1 : Nat) : Int) := by
    have := Nums.full_div n.toNat (by omega)
    rw [← this, show (64 - n).toNat = 64 - n.toNat by omega]
    simp
  have m : Nums.maskN a n = (2 ^ n.toNat - 1) * 2 ^ a.toNat := by unfold Nums.maskN; rw [if_pos ⟨h1, h2, h3, h4⟩]
  rw [e, IntKind.wrap_u64, m]
  rw [m] at l
  have c : ((2 ^ n.toNat - 1 : Nat) : Int) * 2 ^ a.toNat = (((2 ^ n.toNat - 1) * 2 ^ a.toNat : Nat) : Int) := by simp
  rw [c]
  omega

set_option maxHeartbeats 400000 in
theorem mask_any (a n : Int) (w : World) :
    Calls Tryd.prog 84 #[.int .i64 a, .int .i64 n] w fun e w' => e = .returned (.int .u64 (Nums.maskN a n)) ∧ w = w' := by
  by_cases h : Nums.good a n
  · have m := Lib.hid (maskN_walk a n h)
    obtain ⟨h1, h2, h3, h4⟩ := h
    go_enter Tryd.func84, Tryd.ntmps84
    go_wp2
    go_ret
    exact ⟨ret_int m.out, rfl⟩
  · have m := Lib.hid (Nums.maskN_no a n h)
    unfold Nums.good at h
    by_cases c1 : a < 0
    · go_enter Tryd.func84, Tryd.ntmps84
      go_wp2
      go_ret
      exact ⟨ret_int (by rw [m.out]; rfl), rfl⟩
    · by_cases c2 : 64 ≤ a
      · go_enter Tryd.func84, Tryd.ntmps84
        go_wp2
        go_ret
        exact ⟨ret_int (by rw [m.out]; rfl), rfl⟩
      · by_cases c3 : n < 1
        · go_enter Tryd.func84, Tryd.ntmps84
          go_wp2
          go_ret
          exact ⟨ret_int (by rw [m.out]; rfl), rfl⟩
        · have c4 : 64 - a < n := by omega
          clear h
          go_enter Tryd.func84, Tryd.ntmps84
          go_wp2
          go_ret
          exact ⟨ret_int (by rw [m.out]; rfl), rfl⟩

theorem field_walk (x : Nat) (a n : Int) (hx : x < 18446744073709551616) (h : Nums.good a n) :
    bits .and .u64 (x : Int) (Nums.maskN a n : Int) / 2 ^ a.toNat = (Nums.fieldN x a n : Int) := by
  rw [u64_and_nat x _ hx (Nums.maskN_lt a n), ← Nums.fieldN_eq x a n h]
  simp

theorem with_walk (x : Nat) (a n : Int) (v : Nat) (hx : x < 18446744073709551616) (h : Nums.good a n) :
    bits .or .u64 (bits .andNot .u64 (x : Int) (Nums.maskN a n : Int)) (bits .and .u64 (IntKind.u64.wrap ((v : Int) * 2 ^ a.toNat)) (Nums.maskN a n : Int)) = (Nums.withN x a n v : Int) := by
  have l := Nums.maskN_lt a n
  have e : IntKind.u64.wrap ((v : Int) * 2 ^ a.toNat) = ((v * 2 ^ a.toNat % 18446744073709551616 : Nat) : Int) := by
    rw [IntKind.wrap_u64]; simp
  rw [u64_andNot_nat x _ hx l, e, u64_and_nat _ _ (by omega) l]
  have h1 : x &&& (18446744073709551615 - Nums.maskN a n) < 2 ^ 64 := Nat.and_lt_two_pow _ (by omega)
  have h2 : (v * 2 ^ a.toNat % 18446744073709551616) &&& Nums.maskN a n < 2 ^ 64 := Nat.and_lt_two_pow _ (by omega)
  rw [u64_or_nat _ _ (by omega) (by omega)]
  unfold Nums.withN
  rw [if_pos h]

set_option maxHeartbeats 400000 in
theorem with_any (x : Nat) (a n : Int) (v : Nat) (w : World) (hx : x < 18446744073709551616) :
    Calls Tryd.prog 64 #[.int .u64 x, .int .i64 a, .int .i64 n, .int .u64 v] w fun e w' => e = .returned (.int .u64 (Nums.withN x a n v)) ∧ w = w' := by
  by_cases h : Nums.good a n
  · have m := Lib.hid (with_walk x a n v hx h)
    have p : (((Nums.maskN a n : Nat) : Int) == 0) = false := by have := Nums.maskN_pos a n h; simp; omega
    have h1 := h.1
    have h2 := h.2.1
    have hh := Lib.hid h
    clear h
    go_enter Tryd.func64, Tryd.ntmps64
    go_wp2_with (go_at_call 84; refine (mask_any _ _ _).mono ?_; rintro e w' ⟨rfl, rfl⟩)
    go_ret
    exact ⟨ret_int m.out, rfl⟩
  · have m := Lib.hid (show Nums.withN x a n v = x by unfold Nums.withN; rw [if_neg h])
    have p : (((Nums.maskN a n : Nat) : Int) == 0) = true := by rw [Nums.maskN_no a n h]; rfl
    clear h
    go_enter Tryd.func64, Tryd.ntmps64
    go_wp2_with (go_at_call 84; refine (mask_any _ _ _).mono ?_; rintro e w' ⟨rfl, rfl⟩)
    go_ret
    exact ⟨ret_int (by rw [m.out]), rfl⟩
end
section
/- Blocks of cells that a call has made itself: what they hold, what a store makes of them, and a text out of them; with no program in sight. -/
open Go.RowKit

/-- Block g begins with these cells, none of them frozen. -/
def Has (w : World) (g : Nat) (l : List Value) : Prop := ∀ j (hj : j < l.length), w.cell? ⟨g, j, none⟩ = some l[j] ∧ w.frozen? ⟨g, j, none⟩ = false

theorem Has.of_owns {w : World} {base : Nat} {e : TypeId} {g cap n : Nat} {xs : List Value} (h : w.ownsRow base e 1 (.slice (some ⟨g, 0, none⟩) n cap) n xs) : Has w g xs := by
  intro j hj
  have hl : xs.length = n * 1 := h.1
  refine ⟨?_, h.frozenAt j⟩
  rw [h.cellAt j (by omega), List.getElem?_eq_getElem hj]

theorem Has.set {w : World} {g : Nat} {l : List Value} (h : Has w g l) (j : Nat) (u : Value) : Has (w.setCell ⟨g, j, none⟩ u) g (l.set j u) := by
  intro i hi
  have hi' : i < l.length := by simpa using hi
  obtain ⟨h1, h2⟩ := h i hi'
  refine ⟨?_, by simpa using h2⟩
  by_cases c : j = i
  · subst c
    rw [World.cell?_setCell_same (w := w) (h := h1)]
    simp
  · rw [World.cell?_setCell_other (w := w) (h := by simp only [ne_eq, Addr.mk.injEq, true_and, and_true]; omega), h1]
    simp [c]

theorem Has.other {w : World} {g : Nat} {l : List Value} (h : Has w g l) {a : Addr} (ha : a.block ≠ g) (u : Value) : Has (w.setCell a u) g l := by
  intro i hi
  obtain ⟨h1, h2⟩ := h i hi
  refine ⟨?_, by simpa using h2⟩
  rw [World.cell?_setCell_other (w := w) (h := by intro e; apply ha; rw [e]), h1]

theorem Has.below {w w' : World} {B g : Nat} {l : List Value} (h : Has w g l) (hb : Below B w w') (hg : g < B) : Has w' g l := by
  intro i hi
  obtain ⟨h1, h2⟩ := h i hi
  exact ⟨by rw [hb.cell (p := ⟨g, i, none⟩) hg, h1], by rw [hb.frozen (p := ⟨g, i, none⟩) hg, h2]⟩

theorem Has.drew {w : World} {g : Nat} {l : List Value} (h : Has w g l) : Has w.drew g l := fun j hj => by
  simpa using h j hj

theorem Has.cellAt {w : World} {g : Nat} {l : List Value} (h : Has w g l) (j : Nat) (hj : j < l.length) : w.cell? ⟨g, j, none⟩ = some l[j] := (h j hj).1
theorem Has.freeAt {w : World} {g : Nat} {l : List Value} (h : Has w g l) (j : Nat) (hj : j < l.length) : w.frozen? ⟨g, j, none⟩ = false := (h j hj).2

theorem Has.someAt {w : World} {g : Nat} {l : List Value} (h : Has w g l) (j : Nat) (hj : j < l.length) : ∃ v, w.cell? ⟨g, j, none⟩ = some v := ⟨_, (h j hj).1⟩

theorem made_one (v : Value) (h : v.cells = #[v]) (n : Nat) : (madeCells v.cells (n * 1)).toList = List.replicate n v := by
  rw [h, Nat.mul_one]
  apply List.ext_getElem
  · simp [madeCells]
  · intro i h1 h2
    simp [madeCells, Nat.mod_one]

/-- A byte as a cell holds it. -/
def bv (b : UInt8) : Value := .int .u8 (b.toNat : Int)

/-- A text out of such a block. -/
theorem Has.text {P : Program} {w : World} {g cap : Nat} {l : List UInt8} (h : Has w g (l.map bv)) (src dst e : TypeId) (hs : P.underlying src = some (.slice e)) (he : P.underlying e = some (.int .u8)) (hd : P.underlying dst = some .string) (n : Nat) (hn : n = l.length) :
    (convert src dst (.slice (some ⟨g, 0, none⟩) n cap)).run P w = .ok (.string ⟨l.toArray⟩) w := by
  subst hn
  refine run_convert_bytes_back w src dst e ⟨g, 0, none⟩ cap l hs he hd ?_
  intro j hj
  have := (h j (by simpa using hj)).1
  have e : (⟨g, 0, none⟩ : Addr).add j = ⟨g, j, none⟩ := by cases j <;> simp [Addr.add]
  rw [e, this]
  simp [bv]

/-- The bytes of a text as a block of its own. -/
theorem Has.of_text (w : World) (s : ByteArray) (e : TypeId) (cap : Nat) : Has (w.drew.alloc (.cells (bytesRow s cap) e ((bytesRow s cap).size, (bytesRow s cap).size + 1))) w.heap.size (s.data.toList.map bv) := by
  intro j hj
  have hj' : j < s.data.size := by simpa using hj
  refine ⟨?_, ?_⟩
  · have := World.cell?_alloc_mark w.drew (bytesRow s cap) e ((bytesRow s cap).size, (bytesRow s cap).size + 1) j
    rw [show w.drew.heap.size = w.heap.size from rfl] at this
    rw [this, bytesRow_at s cap j hj']
    simp [bv]
  · have := World.frozen?_alloc_mark w.drew (bytesRow s cap) e (bytesRow s cap).size ((bytesRow s cap).size + 1) j
    rw [show w.drew.heap.size = w.heap.size from rfl] at this
    rw [this]
    have : j < (bytesRow s cap).size := by
      have := bytesRow_at s cap j hj'
      exact (Array.getElem?_eq_some_iff.1 this).1
    simp
    omega

theorem Has.lt {w : World} {g : Nat} {l : List Value} (h : Has w g l) (hl : 0 < l.length) : g < w.heap.size := by
  have h0 := (h 0 hl).1
  rcases Nat.lt_or_ge g w.heap.size with c | c
  · exact c
  · simp [World.cell?, Array.getElem?_eq_none c] at h0

theorem setCell_grown (w : World) (a : Addr) (v : Value) : w.grownBy (w.setCell a v) (some a.block) :=
  ⟨rfl, rfl, rfl, by simp [World.setCell], fun k _ hk => Below.heap_setCell _ _ _ _ (fun e => hk (by rw [e]))⟩

theorem grown_trans {a b c : World} {r : Option Nat} (h : a.grownBy b r) (k : b.grownBy c r) : a.grownBy c r :=
  ⟨k.os.trans h.os, k.tape.trans h.tape, k.output.trans h.output, Nat.le_trans h.size k.size, fun i hi hr => (k.block i (Nat.lt_of_lt_of_le hi h.size) hr).trans (h.block i hi hr)⟩

theorem grown_none {a b : World} {r : Option Nat} (h : a.grownBy b none) : a.grownBy b r :=
  ⟨h.os, h.tape, h.output, h.size, fun i hi _ => h.block i hi (by simp)⟩

theorem grown_drew (w : World) (r : Option Nat) : w.grownBy w.drew r := ⟨rfl, rfl, rfl, Nat.le_refl _, fun _ _ _ => rfl⟩

theorem Below.grownBy {a b : World} (h : Below a.heap.size a b) (r : Option Nat) : a.grownBy b r :=
  ⟨h.os, h.tape, h.output, h.size, fun i hi _ => h.block i hi⟩

theorem Has.grown {w w' : World} {g : Nat} {l : List Value} {r : Option Nat} (h : Has w g l) (hg : w.grownBy w' r) (hr : some g ≠ r) : Has w' g l := by
  intro i hi
  obtain ⟨h1, h2⟩ := h i hi
  have hl := h.lt (by omega)
  have hb := hg.block g hl hr
  exact ⟨by rw [World.cell?_of_block (w := w) (a := ⟨g, i, none⟩) hb, h1], by rw [World.frozen?_of_block (w := w) (a := ⟨g, i, none⟩) hb, h2]⟩

/-- The bytes of a text, as a conversion lays them. -/
theorem bytes_of_text {P : Program} (w : World) (src dst e : TypeId) (s : ByteArray) (hs : P.underlying src = some .string) (hd : P.underlying dst = some (.slice e)) (he : P.underlying e = some (.int .u8)) :
    ∃ cap w2, (convert src dst (.string s)).run P w = .ok (.slice (some ⟨w.heap.size, 0, none⟩) s.size cap) w2 ∧ Has w2 w.heap.size (s.data.toList.map bv) ∧ w.grownBy w2 none ∧ w2.heap.size = w.heap.size + 1 :=
  ⟨_, _, run_bytes_of_string w src dst e s hs hd he, Has.of_text w s e _, grown_trans (grown_drew w none) (World.grownBy_alloc _ _ _), by simp⟩
end
section
/- What wire.Bytes makes of a number. -/
open Go.RowKit
theorem Tryd.info5 : (Tryd.prog.info? 5).map (fun i => (i.zero, i.size, i.bytes)) = some (some (.int .u8 0), 1, 1) := by kernel_rfl

theorem bytes_val (x k : Nat) : Value.int .u8 ((x : Int) / 2 ^ (8 * k) % 256) = bv (UInt8.ofNat (x / 256 ^ k % 256)) := by
  have e : (UInt8.ofNat (x / 256 ^ k % 256)).toNat = x / 256 ^ k % 256 := by simp
  unfold bv
  rw [e, show (256 : Nat) = 2 ^ 8 by decide, ← Nat.pow_mul]
  simp

set_option maxHeartbeats 400000 in
theorem bytes_yes (x : Nat) (size : Nat) (w : World) (h1 : 1 ≤ size) (h8 : size ≤ 8) :
    Calls Tryd.prog 43 #[.int .u64 x, .int .i64 size] w fun e w' => e = .returned (.string ⟨(Nums.bytesN x size).toArray⟩) ∧ Below w.heap.size w w' := by
  have hg : goodSizeB (size : Int) = true := by unfold goodSizeB; simp; omega
  obtain ⟨i0, hi, hz0, hz1, hz2⟩ := info_parts Tryd.info5
  have hi1 := Lib.hid hz1
  have hi2 := Lib.hid hz2
  clear hz1 hz2
  have hb0 : Below w.heap.size w w := Below.refl _ _
  go_enter Tryd.func43, Tryd.ntmps43
  go_wp2_with (first
    | (go_at_call 60; refine (goodSize_any _ _).mono ?_; rintro e w' ⟨rfl, rfl⟩; rw [hg])
    | (at_make; refine wpList_make_full _ rfl _ _ 96 rfl w.heap.size 5 i0 (.int .u8 0) 1 Tryd.underlying96 hi hz0 hi1.out .i64 .i64 _ _ size rfl rfl rfl rfl (by rw [hi2.out]; omega) (by unfold maxLen; omega) (Nat.le_refl _) ?_; intro w1 hown hgrow))
  have hb := hb0.grown hgrow (Nat.le_refl _) (by simp)
  have hh := Has.of_owns hown
  clear hown hgrow
  go_loopw [6, 13] (fun _ i wr => ∃ k : Nat, k ≤ size ∧ i = .int .i64 k ∧ Has wr w.heap.size ((Nums.rowU x size k).map bv) ∧ Below w.heap.size w wr) (fun _ i _ => size - (intOf i).toNat)
  case atStart =>
    refine ⟨0, Nat.zero_le _, rfl, ?_, hb⟩
    rw [Nums.rowU_zero]
    rw [made_one _ rfl] at hh
    simpa [bv] using hh
  case round =>
    obtain ⟨k, hk, rfl, hown, hb⟩ := hrel
    by_cases hlt : k < size
    · have hl : ((Nums.rowU x size k).map bv).length = size := by simp [Nums.rowU_length]
      obtain ⟨v0, hc⟩ := hown.someAt (size - 1 - k) (by omega)
      have hf := hown.freeAt (size - 1 - k) (by omega)
      have hs := Lib.hid (hown.set (size - 1 - k) (bv (UInt8.ofNat (x / 256 ^ k % 256))))
      have hv := Lib.hid (bytes_val x k)
      have hl' := Lib.hid hl
      clear hl hh
      go_wp2
      go_roundw
      case rel =>
        refine ⟨k + 1, by omega, by go_num, ?_, hb.setCell (Nat.le_refl _) _⟩
        rw [hv.out]
        have := hs.out
        rw [← List.map_set, Nums.rowU_step x size k hlt] at this
        exact this
      case measure => simp [intOf]; omega
    · have : k = size := by omega
      subst this
      have hr := hown.text (P := Tryd.prog) (cap := k) 96 9 5 Tryd.underlying96 Tryd.underlying5 Tryd.underlying9 k (by simp [Nums.rowU_length])
      rw [Nums.rowU_all] at hr
      clear hown hh
      go_wp2
      go_ret
      exact ⟨rfl, hb⟩
end
section
/- The document's own answers for layer 1: powers, bits, numbers of bytes, bytes of numbers. -/
open Go.RowKit

theorem pow_walk (k : Nat) (h : k < 63) : Value.int .u64 (IntKind.u64.wrap (2 ^ k * 2)) = Value.int .u64 ((2 ^ (k + 1) : Nat) : Int) := by
  have hp : (2 ^ (k + 1) : Nat) ≤ 2 ^ 63 := Nat.pow_le_pow_right (by omega) (by omega)
  have e : (2 : Int) ^ k * 2 = ((2 ^ (k + 1) : Nat) : Int) := by rw [Nat.pow_succ]; simp
  rw [IntKind.wrap_u64, e]
  generalize 2 ^ (k + 1) = z at *
  congr 1
  omega

theorem pow_ne (k : Nat) : ¬ (2 : Int) ^ k = 0 := by
  have := Nums.two_pos k
  have e : (2 : Int) ^ k = ((2 ^ k : Nat) : Int) := by simp
  rw [e]
  omega

theorem div_one (y : Nat) (m : Nat) : y % 2 ^ (m + 1) = 2 * (y / 2 % 2 ^ m) + y % 2 := by
  rw [Nat.pow_succ, Nat.mul_comm, Nat.mod_mul]
  omega

theorem fieldStep (x a k n : Nat) (hx : x < 18446744073709551616) (hk : k < n) :
    Value.int .u64 (IntKind.u64.wrap (IntKind.u64.wrap (2 * ((x : Int) / 2 ^ (a + (k + 1)) % 2 ^ (n - (k + 1)))) + (IntKind.u64.wrap ((x : Int) / 2 ^ (a + k))).tmod 2)) = Value.int .u64 ((x / 2 ^ (a + k) % 2 ^ (n - k) : Nat) : Int) := by
  have e : n - k = (n - (k + 1)) + 1 := by omega
  have f : x / 2 ^ (a + (k + 1)) = x / 2 ^ (a + k) / 2 := by rw [Nat.div_div_eq_div_mul, ← Nat.pow_succ]; rfl
  have g := div_one (x / 2 ^ (a + k)) (n - (k + 1))
  have l : x / 2 ^ (a + k) % 2 ^ (n - k) < 18446744073709551616 := Nat.lt_of_le_of_lt (Nat.mod_le _ _) (Nat.lt_of_le_of_lt (Nat.div_le_self _ _) hx)
  have l2 : x / 2 ^ (a + k) < 18446744073709551616 := Nat.lt_of_le_of_lt (Nat.div_le_self _ _) hx
  have c1 : (x : Int) / 2 ^ (a + (k + 1)) % 2 ^ (n - (k + 1)) = ((x / 2 ^ (a + (k + 1)) % 2 ^ (n - (k + 1)) : Nat) : Int) := by simp
  have c2 : (x : Int) / 2 ^ (a + k) = ((x / 2 ^ (a + k) : Nat) : Int) := by simp
  rw [c1, c2, f, IntKind.wrap_u64, IntKind.wrap_u64, IntKind.wrap_u64]
  rw [e] at l ⊢
  generalize x / 2 ^ (a + k) = y at *
  generalize 2 ^ (n - (k + 1)) = z at *
  have : ((y : Int) % 18446744073709551616).tmod 2 = ((y % 2 : Nat) : Int) := by
    rw [Int.tmod_eq_emod_of_nonneg (by omega)]; omega
  rw [this]
  congr 1
  omega

theorem numL_take_succ (l : List UInt8) (k : Nat) (h : k < l.length) : Nums.numL (l.take (k + 1)) = 256 * Nums.numL (l.take k) + l[k].toNat := by
  rw [List.take_succ_eq_append_getElem h, Nums.numL_snoc]

theorem number_walk (s : ByteArray) (k : Nat) (h : k < s.size) (h8 : s.size ≤ 8) :
    Value.int .u64 (IntKind.u64.wrap (IntKind.u64.wrap (256 * ((Nums.numL (s.data.toList.take k) : Nat) : Int)) + IntKind.u64.wrap ((s[k].toNat : Nat) : Int))) = Value.int .u64 ((Nums.numL (s.data.toList.take (k + 1)) : Nat) : Int) := by
  have hk : k < s.data.toList.length := by simpa using h
  have e := numL_take_succ s.data.toList k hk
  have l := Nums.numL_lt (s.data.toList.take (k + 1))
  have p : 256 ^ (s.data.toList.take (k + 1)).length ≤ 256 ^ 8 := Nat.pow_le_pow_right (by omega) (by simp; omega)
  have c : s.data.toList[k].toNat = s[k].toNat := rfl
  rw [c] at e
  have := s[k].toNat_lt
  rw [IntKind.wrap_u64, IntKind.wrap_u64, IntKind.wrap_u64]
  have p' : Nums.numL (s.data.toList.take (k + 1)) < 18446744073709551616 := Nat.lt_of_lt_of_le l p
  generalize Nums.numL (s.data.toList.take (k + 1)) = a at *
  generalize Nums.numL (s.data.toList.take k) = b at *
  congr 1
  omega

theorem one_text (w : World) (v : Int) (b : UInt8) (h : v = (b.toNat : Int)) :
    (convert 96 9 (.slice (some ⟨w.heap.size, 0, none⟩) 1 1)).run Tryd.prog (w.alloc (.cells #[.int .u8 v] 5)) = .ok (.string ⟨#[b]⟩) (w.alloc (.cells #[.int .u8 v] 5)) := by
  have h1 : Has (w.alloc (.cells #[.int .u8 v] 5)) w.heap.size ([b].map bv) := by
    intro j hj
    have : j = 0 := by simpa using hj
    subst this
    exact ⟨by simp [bv, h], by simp⟩
  exact h1.text 96 9 5 Tryd.underlying96 Tryd.underlying5 Tryd.underlying9 1 rfl

theorem rbytes_val (x k : Nat) : ((x : Int) / 256 ^ k).tmod 256 % 256 = ((UInt8.ofNat (x / 256 ^ k % 256)).toNat : Int) := by
  have e : (UInt8.ofNat (x / 256 ^ k % 256)).toNat = x / 256 ^ k % 256 := by simp
  have c : (x : Int) / 256 ^ k = ((x / 256 ^ k : Nat) : Int) := by simp
  rw [e, c]
  generalize x / 256 ^ k = y
  rw [Int.tmod_eq_emod_of_nonneg (by omega)]
  omega

theorem rbytes_next (x k : Nat) (hx : x < 18446744073709551616) : Value.int .u64 (IntKind.u64.wrap (((x : Int) / 256 ^ k).tdiv 256)) = Value.int .u64 ((x / 256 ^ (k + 1) : Nat) : Int) := by
  have c : (x : Int) / 256 ^ k = ((x / 256 ^ k : Nat) : Int) := by simp
  have f : x / 256 ^ (k + 1) = x / 256 ^ k / 256 := by rw [Nat.div_div_eq_div_mul, ← Nat.pow_succ]
  have l : x / 256 ^ k < 18446744073709551616 := Nat.lt_of_le_of_lt (Nat.div_le_self _ _) hx
  rw [c, f, IntKind.wrap_u64]
  generalize x / 256 ^ k = y at *
  rw [Int.tdiv_eq_ediv_of_nonneg (by omega)]
  congr 1
  omega

theorem rbytes_cat (x k : Nat) : Value.string ((⟨#[UInt8.ofNat (x / 256 ^ k % 256)]⟩ : ByteArray) ++ ⟨(Nums.bytesN x k).toArray⟩) = Value.string ⟨(Nums.bytesN x (k + 1)).toArray⟩ := by
  congr 1

set_option maxHeartbeats 400000 in
theorem bytes_no (x : Nat) (n : Int) (w : World) (h : n < 1 ∨ 8 < n) :
    Calls Tryd.prog 43 #[.int .u64 x, .int .i64 n] w fun e w' => e = .returned (.string ⟨#[]⟩) ∧ w = w' := by
  have hg : goodSizeB n = false := by unfold goodSizeB; simp; omega
  clear h
  go_enter Tryd.func43, Tryd.ntmps43
  go_wp2_with (go_at_call 60; refine (goodSize_any _ _).mono ?_; rintro e w' ⟨rfl, rfl⟩; rw [hg])
  go_ret
  exact ⟨rfl, rfl⟩
end
section
/- What a reader of package wire does: its two cells are what is left, and whether it is short. -/
open Go.RowKit

/-- Block g is a reader. -/
def Rd (w : World) (g : Nat) (rest : ByteArray) (short : Bool) : Prop := Has w g [.string rest, .bool short]

/-- How a reader ends. -/
def endN (rest : ByteArray) (short : Bool) : Int := if short then 2 else if rest.size = 0 then 0 else 3

theorem byteAt {w : World} {g : Nat} {t : ByteArray} (h : Has w g (t.data.toList.map bv)) (k : Nat) (hk : k < t.size) :
    ∃ c : UInt8, w.cell? ⟨g, k, none⟩ = some (.int .u8 (c.toNat : Int)) ∧ Nums.numL (t.data.toList.take (k + 1)) = 256 * Nums.numL (t.data.toList.take k) + c.toNat := by
  have hl : k < t.data.toList.length := by rw [Array.length_toList]; exact hk
  refine ⟨t.data.toList[k], ?_, numL_take_succ _ _ hl⟩
  have := h.cellAt k (by simpa using hl)
  rw [List.getElem_map] at this
  exact this

theorem num_walk (a b : Nat) (c : UInt8) (e : a = 256 * b + c.toNat) (l : a < 18446744073709551616) :
    Value.int .u64 (bits .or .u64 (IntKind.u64.wrap ((b : Int) * 256)) (IntKind.u64.wrap (c.toNat : Int))) = Value.int .u64 (a : Int) := by
  have hc := c.toNat_lt
  have e1 : IntKind.u64.wrap ((b : Int) * 256) = ((b * 256 : Nat) : Int) := by rw [IntKind.wrap_u64]; omega
  have e2 : IntKind.u64.wrap (c.toNat : Int) = (c.toNat : Int) := by rw [IntKind.wrap_u64]; omega
  rw [e1, e2, u64_or_nat _ _ (by omega) (by omega), nat_join 8 _ _ (by omega) (by omega), e, Nat.mul_comm]

theorem numL_take_lt (l : List UInt8) (k : Nat) (h : k ≤ 8) : Nums.numL (l.take k) < 18446744073709551616 := by
  have h1 := Nums.numL_lt (l.take k)
  have p : 256 ^ (l.take k).length ≤ 256 ^ 8 := Nat.pow_le_pow_right (by omega) (by simp; omega)
  exact Nat.lt_of_lt_of_le h1 p
end
section
/- Addresses as six numbers: plain arithmetic, and what the functions of package addr that only compute do. -/
open Go.RowKit

/-- Six bytes, by value. -/
abbrev mac (m : Nat → Nat) : Value := .agg #[.int .u8 (m 0 : Nat), .int .u8 (m 1 : Nat), .int .u8 (m 2 : Nat), .int .u8 (m 3 : Nat), .int .u8 (m 4 : Nat), .int .u8 (m 5 : Nat)]

/-- Is each of them a byte? -/
def Six (m : Nat → Nat) : Prop := m 0 < 256 ∧ m 1 < 256 ∧ m 2 < 256 ∧ m 3 < 256 ∧ m 4 < 256 ∧ m 5 < 256

theorem Six.at {m : Nat → Nat} (h : Six m) (k : Nat) (hk : k < 6) : m k < 256 := by
  obtain ⟨h0, h1, h2, h3, h4, h5⟩ := h
  match k, hk with
  | 0, _ => exact h0
  | 1, _ => exact h1
  | 2, _ => exact h2
  | 3, _ => exact h3
  | 4, _ => exact h4
  | 5, _ => exact h5

/-- The number of some bytes. -/
def numF (m : Nat → Nat) : Nat → Nat
  | 0 => 0
  | k + 1 => 256 * numF m k + m k

/-- The bytes of a number. -/
def byteF (n : Nat) (i : Nat) : Nat := n / 256 ^ (5 - i) % 256

theorem byteF_six (n : Nat) : Six (byteF n) := by
  unfold Six byteF
  refine ⟨?_, ?_, ?_, ?_, ?_, ?_⟩ <;> exact Nat.mod_lt _ (by omega)

theorem byteF_lit (n : Nat) : byteF n 0 = n / 1099511627776 % 256 ∧ byteF n 1 = n / 4294967296 % 256 ∧ byteF n 2 = n / 16777216 % 256 ∧ byteF n 3 = n / 65536 % 256 ∧ byteF n 4 = n / 256 % 256 ∧ byteF n 5 = n % 256 := by
  refine ⟨rfl, rfl, rfl, rfl, ?_, ?_⟩
  · simp [byteF]
  · simp [byteF]

theorem numF_lit (m : Nat → Nat) : numF m 6 = 256 * (256 * (256 * (256 * (256 * m 0 + m 1) + m 2) + m 3) + m 4) + m 5 := by
  simp [numF]

theorem numF_lt {m : Nat → Nat} (h : Six m) : numF m 6 < 281474976710656 := by
  rw [numF_lit]
  obtain ⟨h0, h1, h2, h3, h4, h5⟩ := h
  omega

theorem numF_byteF (n : Nat) : numF (byteF n) 6 = n % 281474976710656 := by
  rw [numF_lit]
  obtain ⟨h0, h1, h2, h3, h4, h5⟩ := byteF_lit n
  rw [h0, h1, h2, h3, h4, h5]
  omega

theorem byteF_numF {m : Nat → Nat} (h : Six m) : mac (byteF (numF m 6)) = mac m := by
  obtain ⟨e0, e1, e2, e3, e4, e5⟩ := byteF_lit (numF m 6)
  rw [numF_lit] at *
  obtain ⟨h0, h1, h2, h3, h4, h5⟩ := h
  unfold mac
  rw [show byteF (256 * (256 * (256 * (256 * (256 * m 0 + m 1) + m 2) + m 3) + m 4) + m 5) 0 = m 0 by omega,
    show byteF (256 * (256 * (256 * (256 * (256 * m 0 + m 1) + m 2) + m 3) + m 4) + m 5) 1 = m 1 by omega,
    show byteF (256 * (256 * (256 * (256 * (256 * m 0 + m 1) + m 2) + m 3) + m 4) + m 5) 2 = m 2 by omega,
    show byteF (256 * (256 * (256 * (256 * (256 * m 0 + m 1) + m 2) + m 3) + m 4) + m 5) 3 = m 3 by omega,
    show byteF (256 * (256 * (256 * (256 * (256 * m 0 + m 1) + m 2) + m 3) + m 4) + m 5) 4 = m 4 by omega,
    show byteF (256 * (256 * (256 * (256 * (256 * m 0 + m 1) + m 2) + m 3) + m 4) + m 5) 5 = m 5 by omega]

theorem numF_step (m : Nat → Nat) (k : Nat) : numF m (k + 1) = 256 * numF m k + m k := rfl

theorem numF_le {m : Nat → Nat} (h : Six m) (k : Nat) (hk : k ≤ 6) : numF m k < 281474976710656 := by
  obtain ⟨h0, h1, h2, h3, h4, h5⟩ := h
  match k, hk with
  | 0, _ => simp [numF]
  | 1, _ => simp [numF]; omega
  | 2, _ => simp [numF]; omega
  | 3, _ => simp [numF]; omega
  | 4, _ => simp [numF]; omega
  | 5, _ => simp [numF]; omega
  | 6, _ => simp [numF]; omega

/-- An element of six bytes. -/
theorem mac_at (m : Nat → Nat) (k : Nat) (hk : k < 6) : (#[Value.int .u8 (m 0 : Nat), .int .u8 (m 1 : Nat), .int .u8 (m 2 : Nat), .int .u8 (m 3 : Nat), .int .u8 (m 4 : Nat), .int .u8 (m 5 : Nat)] : Array Value)[k]? = some (.int .u8 (m k : Nat)) := by
  match k, hk with
  | 0, _ => rfl
  | 1, _ => rfl
  | 2, _ => rfl
  | 3, _ => rfl
  | 4, _ => rfl
  | 5, _ => rfl

/-- Its cells, as a list. -/
abbrev macL (m : Nat → Nat) : List Value := [.int .u8 (m 0 : Nat), .int .u8 (m 1 : Nat), .int .u8 (m 2 : Nat), .int .u8 (m 3 : Nat), .int .u8 (m 4 : Nat), .int .u8 (m 5 : Nat)]

theorem macL_at (m : Nat → Nat) (k : Nat) (hk : k < (macL m).length) : (macL m)[k] = .int .u8 (m k : Nat) :=
  (Array.getElem?_eq_some_iff.1 (mac_at m k hk)).2

theorem Tryd.info5' : (Tryd.prog.info? 5).map (fun i => (i.zero, i.size, i.bytes)) = some (some (.int .u8 0), 1, 1) := by kernel_rfl
theorem Tryd.cells5 : Tryd.prog.cellsOf 5 = 1 := by kernel_rfl

theorem run_index_mac (t : TypeId) (ht : Tryd.prog.underlying t = some (.array 6 5)) (m : Nat → Nat) (k : Nat) (W : World) (hk : k < 6) :
    (Instr.index t (mac m) (.int .i64 (k : Int))).run Tryd.prog W = .ok (.int .u8 (m k : Nat)) W := by
  have h1 : (0 : Int) ≤ (k : Int) ∧ (k : Int) < 6 := by omega
  obtain ⟨i, hi, _⟩ := info_parts Tryd.info5'
  have hs := run_sizeOf (P := Tryd.prog) (w := W) hi
  rw [Tryd.cells5] at hs
  have hl := macL_at m k hk
  simp only [macL] at hl
  simp [Instr.index, run_underlying ht, asIntOf, h1, go_sem, part, hs, hk, hl]

theorem Has.mac (w : World) (m : Nat → Nat) (t : TypeId) : Has (w.alloc (.cells #[.int .u8 (m 0 : Nat), .int .u8 (m 1 : Nat), .int .u8 (m 2 : Nat), .int .u8 (m 3 : Nat), .int .u8 (m 4 : Nat), .int .u8 (m 5 : Nat)] t)) w.heap.size (macL m) := by
  intro j hj
  match j, hj with
  | 0, _ => exact ⟨by simp, by simp⟩
  | 1, _ => exact ⟨by simp, by simp⟩
  | 2, _ => exact ⟨by simp, by simp⟩
  | 3, _ => exact ⟨by simp, by simp⟩
  | 4, _ => exact ⟨by simp, by simp⟩
  | 5, _ => exact ⟨by simp, by simp⟩

theorem num_walk2 (m : Nat → Nat) (k : Nat) (h : m k < 256) (l : numF m k < 281474976710656) :
    Value.int .u64 (bits .or .u64 (IntKind.u64.wrap ((numF m k : Int) * 256)) (m k : Int)) = Value.int .u64 (numF m (k + 1) : Nat) := by
  have e1 : IntKind.u64.wrap ((numF m k : Int) * 256) = ((numF m k * 256 : Nat) : Int) := by rw [IntKind.wrap_u64]; omega
  rw [e1, u64_or_nat _ _ (by omega) (by omega), nat_join 8 _ _ (by omega) (by omega), numF_step, Nat.mul_comm]

set_option maxHeartbeats 400000 in
theorem int_any (m : Nat → Nat) (w : World) (hm : Six m) : Calls Tryd.prog 53 #[mac m] w fun e w' => e = .returned (.int .u64 (numF m 6 : Nat)) ∧ Below w.heap.size w w' := by
  have b0 : Below w.heap.size w w := Below.refl _ _
  have H := Lib.hid hm
  go_enter Tryd.func53, Tryd.ntmps53
  go_wp2
  go_loop [3, 7] (fun n i => ∃ k : Nat, k ≤ 6 ∧ i = .int .i64 k ∧ n = .int .u64 (numF m k : Nat)) (fun _ i => 6 - (intOf i).toNat)
  case atStart => exact ⟨0, by omega, rfl, rfl⟩
  case round =>
    obtain ⟨k, hk, rfl, rfl⟩ := hrel
    by_cases hlt : k < 6
    · have hi := fun W => run_index_mac 40 Tryd.underlying40 m k W hlt
      have hv := Lib.hid (num_walk2 m k (H.out.at k hlt) (numF_le H.out k hk))
      have hb := H.out.at k hlt
      go_wp2
      go_round
      case rel => exact ⟨k + 1, by omega, by go_num, hv.out⟩
      case measure => simp [intOf]; omega
    · have hk' : k = 6 := by omega
      subst hk'
      go_wp2
      go_ret
      exact ⟨rfl, b0.alloc (Nat.le_refl _) _⟩

theorem num_walk3 (m : Nat → Nat) (k : Nat) (h : m k < 256) (l : numF m k < 281474976710656) :
    Value.int .u64 (IntKind.u64.wrap (IntKind.u64.wrap (256 * (numF m k : Int)) + (m k : Int))) = Value.int .u64 (numF m (k + 1) : Nat) := by
  rw [numF_step, IntKind.wrap_u64, IntKind.wrap_u64]
  congr 1
  omega
end
section
/- Blocks of cells that are known whole. -/
open Go.RowKit

theorem Blk.free6 {w : World} {g : Nat} {cs : Array Value} {t : TypeId} (h : Blk w g cs t) :
    w.frozen? ⟨g, 0, none⟩ = false ∧ w.frozen? ⟨g, 1, none⟩ = false ∧ w.frozen? ⟨g, 2, none⟩ = false ∧ w.frozen? ⟨g, 3, none⟩ = false ∧ w.frozen? ⟨g, 4, none⟩ = false ∧ w.frozen? ⟨g, 5, none⟩ = false :=
  ⟨h.free 0, h.free 1, h.free 2, h.free 3, h.free 4, h.free 5⟩

/-- Six cells known whole, one by one. -/
theorem Blk.six {w : World} {g : Nat} {t : TypeId} {c0 c1 c2 c3 c4 c5 : Value} (h : Blk w g #[c0, c1, c2, c3, c4, c5] t) :
    w.cell? ⟨g, 0, none⟩ = some c0 ∧ w.cell? ⟨g, 1, none⟩ = some c1 ∧ w.cell? ⟨g, 2, none⟩ = some c2 ∧ w.cell? ⟨g, 3, none⟩ = some c3 ∧ w.cell? ⟨g, 4, none⟩ = some c4 ∧ w.cell? ⟨g, 5, none⟩ = some c5 :=
  ⟨h.cell 0, h.cell 1, h.cell 2, h.cell 3, h.cell 4, h.cell 5⟩

/-- Six bytes as an array of cells. -/
abbrev macA (m : Nat → Nat) : Array Value := #[.int .u8 (m 0 : Nat), .int .u8 (m 1 : Nat), .int .u8 (m 2 : Nat), .int .u8 (m 3 : Nat), .int .u8 (m 4 : Nat), .int .u8 (m 5 : Nat)]

theorem bytes6 (x : Nat) : (Lib.byteCells (Nums.bytesN x 6)) = macL (byteF x) := by
  simp [Nums.bytesN, Lib.byteCells, macL, byteF]

theorem copy_six (w : World) (g x : Nat) (ty : TypeId) (cur : Array Value) (hc : cur.size = 6) (h : Blk w g cur 40) :
    (Builtin.copy_ #[96, 9] ty #[.slice (some ⟨g, 0, none⟩) 6 6, .string ⟨(Nums.bytesN x 6).toArray⟩]).run Tryd.prog w = .ok (goInt 6) (w.setRow g (macA (byteF x))) := by
  have hs : (⟨(Nums.bytesN x 6).toArray⟩ : ByteArray).size = 6 := by show (Nums.bytesN x 6).toArray.size = 6; simp [Nums.bytesN_length]
  obtain ⟨i, hi, _, h1, _⟩ := info_parts Tryd.info5'
  have := Lib.run_copy_row_string (P := Tryd.prog) w 96 9 ty 5 g 0 6 6 ⟨(Nums.bytesN x 6).toArray⟩ cur 40 Tryd.underlying96 (by rw [hi]; simp [h1]) h (by omega) (by omega)
  rw [this, hs]
  have hd : cur.toList.drop (0 + 6) = [] := List.drop_eq_nil_of_le (by rw [Array.length_toList]; omega)
  rw [hd]
  simp only [bytes6, List.take_zero, List.nil_append, List.append_nil]
  rfl
end
end Go.Proofs.YtelohoomlgjjmaaDoor
